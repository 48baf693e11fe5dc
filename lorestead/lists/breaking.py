"""Rows of a list by the tables of the situations in which they don't hold."""


def breaking_tables(lattice, known):
    """For each rule, by its numbers, the table of the masks in which it doesn't hold."""
    return [lattice.breaking(ifs, thens) for ifs, thens in known]


def left_in(loose, broken):
    """What is left of the loose table without the broken ones."""
    for table in broken:
        loose ^= loose & table
    return loose


def alone_in(loose, broken):
    """For each of the broken tables, what is of the loose one and of this one, and of no other of them."""
    once = 0
    more = 0
    for table in broken:
        more |= once & table
        once |= table
    lone = loose & (once ^ more)
    return [lone & table for table in broken]
