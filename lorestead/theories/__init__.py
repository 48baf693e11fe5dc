"""What rules give, theories and their closures, walks to rules, and verdicts on them."""
