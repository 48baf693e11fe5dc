"""Rules: ifs and thens, and where they hold."""
