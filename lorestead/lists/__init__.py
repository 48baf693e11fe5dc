"""Lists of fewest rows, zoos, found rules, books."""
