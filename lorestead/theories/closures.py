"""Closures of all situations of a field at once, each situation a mask of its atoms' numbers among the shown ones."""

from lorestead.fields.listing import numbers_of


def _tables(many):
    """For each of so many atoms, which of all masks of them have it, a bit each."""
    tables = []
    size = 1
    for _ in range(many):
        tables = [table | table << size for table in tables] + [((1 << size) - 1) << size]
        size *= 2
    return tables


def _let_grow(cells, full, steps):
    """Let the atoms come by the steps, again and again, into all masks at once."""
    grows = True
    while grows:
        grows = False
        for needed, told in steps:
            held = full
            for number in needed:
                held &= cells[number]
            for number in told:
                if held | cells[number] != cells[number]:
                    cells[number] |= held
                    grows = True


def grown_tables(many, shown, rows):
    """For each of so many atoms, in which masks of the shown ones it comes by the pairs of masks, a bit each.

    Shown are the numbers of the shown ones among all.
    """
    cells = [0] * many
    for number, table in zip(shown, _tables(len(shown))):
        cells[number] = table
    steps = [(numbers_of(needed), numbers_of(told & ~needed)) for needed, told in rows]
    _let_grow(cells, (1 << (1 << len(shown))) - 1, steps)
    return cells


def closures_by_rows(many, shown, rows):
    """By its mask, the mask of the closure of each situation, where atoms come by the pairs of masks."""
    cells = grown_tables(many, shown, rows)
    closures = [0] * (1 << len(shown))
    for place, number in enumerate(shown):
        for mask in numbers_of(cells[number]):
            closures[mask] |= 1 << place
    return closures


def closures_by_masks(many, masks):
    """By its mask, what is in each of the masks that have all of it: all of so many atoms, where none has."""
    size = 1 << many
    closures = [size - 1] * size
    for mask in masks:
        closures[mask] = mask
    # Atom by atom: whatever has all of a mask either has this atom, too, or is looked at without it.
    for place in range(many):
        bit = 1 << place
        for mask in range(size):
            if not mask & bit:
                closures[mask] &= closures[mask | bit]
    return closures


def closed_among(cells):
    """Which masks of atoms no other of these atoms comes to, a bit each, by what is told for each atom as above."""
    closed = (1 << (1 << len(cells))) - 1
    for cell, table in zip(cells, _tables(len(cells))):
        closed ^= closed & (cell ^ table)
    return closed
