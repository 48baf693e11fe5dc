"""Terms, fields and renamings: what rules are made of."""
