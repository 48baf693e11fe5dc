"""Exploring: small worlds that break, one after the other, shown rules that held in all worlds ahead."""

from lorestead.fields.listing import mask_of, numbers_of
from lorestead.lists.zoo import marked_kinds
from lorestead.theories.closures import closed_in, tables_by_table
from lorestead.worlds.crowds import parted, rising_ways, seen_row
from lorestead.worlds.small import small_blocks


def _worlds_by_mask(block, shown):
    """For the mask of each situation of a way that rises, in which of the worlds that are left of the block it is."""
    seen = seen_row(block.crowd, shown.row)
    found = {}
    for way in rising_ways(block.crowd.things, shown.unknowns):
        for worlds, mask in parted(block.crowd, block.left, seen, way):
            found[mask] = found.get(mask, 0) | worlds
    return found


def _sights(field, rules, most, shown):
    """Pairs of a block of small worlds in which the rules hold and what _worlds_by_mask tells of it, in order."""
    # A world of fewer things than unknowns has no ways.
    blocks = [block for things in range(field[2], most + 1) for block in small_blocks(field, things, rules)]
    return [(block, _worlds_by_mask(block, shown)) for block in blocks]


def _table_of(lattice, masks):
    """The table of these masks and all that they become by renamings."""
    table = 0
    for mask in masks:
        if not table >> mask & 1:
            table |= mask_of(lattice.kind_of(mask))
    return table


def _first_with(sights, kind):
    """The first world that has a situation of the kind, and the masks of its situations."""
    for block, found in sights:
        worlds = 0
        for mask in kind:
            worlds |= found.get(mask, 0)
        if worlds:
            number = numbers_of(worlds)[0]
            masks = [mask for mask in found if found[mask] >> number & 1]
            return (block.world_at(number), masks)
    return None


def worlds_to_put(theory, rules, most):
    """Small worlds in which the rules hold, put one by one to those by whose worlds the theory is told."""
    lattice = theory.lattice()
    many = len(lattice.owns)
    sights = _sights(theory.field(), rules, most, lattice.shown)
    closed = theory.closed_table()
    seen = closed
    for _, found in sights:
        seen |= _table_of(lattice, list(found))
    put = []
    # All others are what two or more of those that have a mark have together.
    for kind in marked_kinds(lattice, closed_in(tables_by_table(many, seen))):
        if not closed >> kind[0] & 1:
            world, masks = _first_with(sights, kind)
            put.append(world)
            closed = closed_in(tables_by_table(many, closed | _table_of(lattice, masks)))
    return put
