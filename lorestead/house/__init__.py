"""A house: rules and worlds that stand beside one another, and deeds that are taken back."""
