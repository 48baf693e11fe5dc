"""Worlds of things in ties, the ways of a field in them, and the small worlds."""
