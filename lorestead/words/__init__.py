"""Texts of rules, worlds and fields, and a desk that answers rows of words."""
