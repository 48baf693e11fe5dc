"""Closures of all situations of a field at once.

A situation is told by its mask, of its atoms' numbers among the shown ones; a table has a bit for each mask.
"""

from lorestead.fields.listing import numbers_of


def own_tables(many):
    """For each of so many atoms, which masks of them have it."""
    tables = []
    size = 1
    for _ in range(many):
        tables = [table | table << size for table in tables] + [((1 << size) - 1) << size]
        size *= 2
    return tables


def all_masks(many):
    """The table that has all masks of so many atoms."""
    return (1 << (1 << many)) - 1


def _let_grow(cells, full, steps):
    """Let the atoms come by the steps, again and again, into all masks at once."""
    grows = True
    while grows:
        grows = False
        for needed, told in steps:
            held = full
            for number in needed:
                held &= cells[number]
            for number in told:
                if held | cells[number] != cells[number]:
                    cells[number] |= held
                    grows = True


def tables_by_rows(many, shown, rows):
    """For each shown atom the table of the masks to which it comes, where atoms come by pairs of masks of all.

    Many are all atoms; shown are the numbers of the shown ones among them.
    """
    cells = [0] * many
    for number, table in zip(shown, own_tables(len(shown))):
        cells[number] = table
    steps = [(numbers_of(needed), numbers_of(told & ~needed)) for needed, told in rows]
    _let_grow(cells, all_masks(len(shown)), steps)
    return [cells[number] for number in shown]


def tables_by_table(many, told):
    """For each of so many atoms the table of the masks such that each told one that has all of them has it, too."""
    tables = own_tables(many)
    found = []
    for table in tables:
        # What is without the atom, and whatever is in that, atom by atom.
        without = told & ~table
        for place, other in enumerate(tables):
            without |= (without & other) >> (1 << place)
        found.append(all_masks(many) ^ without)
    return found


def closure_in(tables, mask):
    """The mask of the atoms in whose tables the mask is."""
    return sum([1 << place for place, table in enumerate(tables) if table >> mask & 1])


def closed_in(tables):
    """The table of the masks that have all atoms in whose tables they are."""
    closed = all_masks(len(tables))
    for table, own in zip(tables, own_tables(len(tables))):
        closed ^= closed & (table ^ own)
    return closed
