"""Closed situations in their order, their kinds, and what stands above what."""

from lorestead.errors import NoNumber, NoSituation
from lorestead.fields.listing import mask_of
from lorestead.fields.terms import is_number_in
from lorestead.theories.closures import closure_in
from lorestead.theories.theories import require_theory


def _closed_mask(theory, situation):
    """The mask of a closed situation; NoSituation of anything else."""
    mask = mask_of(theory.numbers_of_shown(situation))
    if not theory.closed_table() >> mask & 1:
        raise NoSituation("a closed situation of the theory is due")
    return mask


def closed_of(theory):
    """The closed situations, by how many atoms they have, then as rows."""
    require_theory(theory)
    lattice = theory.lattice()
    return tuple([lattice.situation_at(mask) for mask in theory.closed_places()])


def closed_at(theory, number):
    """The closed situation of that number."""
    require_theory(theory)
    masks = list(theory.closed_places())
    if not is_number_in(number, 0, len(masks) - 1):
        raise NoNumber(number)
    return theory.lattice().situation_at(masks[number])


def number_of(theory, situation):
    """The number of the closed situation."""
    require_theory(theory)
    return theory.closed_places()[_closed_mask(theory, situation)]


def kinds_closed(theory):
    """Pairs of the least of each kind of closed situations and how many it has, in their order."""
    require_theory(theory)
    lattice = theory.lattice()
    kinds = lattice.kinds_in(theory.closed_table())
    return tuple([(lattice.situation_at(kind[0]), len(kind)) for kind in kinds])


def above_of(theory, situation):
    """The closed situations next above this one, in their order."""
    require_theory(theory)
    mask = _closed_mask(theory, situation)
    lattice = theory.lattice()
    found = {}
    for number in range(len(lattice.owns)):
        if not mask >> number & 1:
            found[closure_in(theory.tables(), mask | 1 << number)] = True
    # Each one above lies over what comes with one atom more; next are those with no other such beneath them.
    table = mask_of(found)
    nearest = table ^ (table & lattice.above(table))
    return tuple([lattice.situation_at(other) for _, _, other in lattice.in_order(nearest)])


def height_of(theory):
    """How many stand in a longest row of closed situations each above the one ahead, less 1."""
    require_theory(theory)
    lattice = theory.lattice()
    height = -1
    left = theory.closed_table()
    while left:
        left &= lattice.above(left)
        height += 1
    return height
