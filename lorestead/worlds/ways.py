"""Ways of a field in a world, what holds by them, and their situations."""

from lorestead.errors import NoWay
from lorestead.fields.fields import all_atoms, shown_atoms
from lorestead.fields.listing import numbers_of, row_at
from lorestead.fields.terms import is_number_in
from lorestead.worlds.crowds import cell_by, seen_row, situations_in, ways_in
from lorestead.worlds.worlds import crowd_of, require_ties


def _is_way_in(things, many, thing):
    if type(thing) is not tuple or len(thing) != many:
        return False
    if not all([is_number_in(one, 0, things - 1) for one in thing]):
        return False
    return len(set(thing)) == many


def is_way(field, world, thing):
    """Whether the thing is a way of the field in the world."""
    atoms = shown_atoms(field)
    require_ties(field[0], world)
    return _is_way_in(world[0], atoms.unknowns, thing)


def ways_of(field, world):
    """All ways of the field in the world, rising."""
    atoms = shown_atoms(field)
    require_ties(field[0], world)
    return tuple(ways_in(world[0], atoms.unknowns))


def atoms_by(field, world, way, *, shown=True):
    """The row of the atoms, the shown or all ones, that hold in the world by the way."""
    atoms = shown_atoms(field) if shown else all_atoms(field)
    crowd = crowd_of(field[0], world)
    if not _is_way_in(crowd.things, atoms.unknowns, way):
        raise NoWay("a tuple of unlike things of the world, one for each unknown, is due")
    seen = seen_row(crowd, atoms.row)
    return tuple([
        atom for atom, (cells, unknowns) in zip(atoms.row, seen) if cell_by(crowd, cells, unknowns, way)
    ])


def situations_of(field, world):
    """The situations of all ways in the world, each once, as rows stand."""
    atoms = shown_atoms(field)
    crowd = crowd_of(field[0], world)
    return tuple([row_at(atoms, row) for row in sorted([numbers_of(mask) for mask in situations_in(crowd, atoms)])])
