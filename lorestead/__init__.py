"""Lorestead: rules of ties found in small worlds, walked or broken, kept by fewest."""
