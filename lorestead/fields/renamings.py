"""Rows of atoms, how they stand, and what they become where unknowns are renamed."""

from itertools import permutations

from lorestead.errors import NoAtom, NoMost, NoRenaming, NoRow
from lorestead.fields.fields import MOST_UNKNOWNS, has_atom, listed_atoms, require_atom, require_field
from lorestead.fields.listing import images_of
from lorestead.fields.terms import is_number_in


def places_in(atoms, row):
    """The numbers that the row's atoms have among these atoms."""
    return tuple([atoms.index(atom) for atom in row])


def _rises(atoms, thing):
    """Whether the thing is a tuple of some of the atoms in their order, none twice."""
    if not isinstance(thing, tuple) or not all([has_atom(atoms, part) for part in thing]):
        return False
    places = list(places_in(atoms, thing))
    return places == sorted(set(places))


def is_row(field, thing, *, shown=False):
    """Whether the thing is a row of atoms, or a situation, of the field."""
    require_field(field)
    return _rises(listed_atoms(field, shown), thing)


def require_row(field, thing):
    """Raise NoField or NoRow where the one or the other is none."""
    if not is_row(field, thing):
        raise NoRow("a rising tuple of unlike atoms of the field is due")


def rising_row(atoms, some):
    """Those of the atoms that are among some, in order, each once."""
    return tuple([atom for atom in atoms if atom in some])


def row_of(field, atoms):
    """The row of a tuple of atoms, handed in in any order and perhaps more than once."""
    require_field(field)
    if not isinstance(atoms, tuple):
        raise NoRow("a tuple of atoms is due")
    known = listed_atoms(field, False)
    if not all([has_atom(known, part) for part in atoms]):
        raise NoAtom("atoms of the field are due")
    return rising_row(known, atoms)


def is_ahead(field, row, thing):
    """Whether the row stands ahead of the thing, a row."""
    require_row(field, row)
    if not is_row(field, thing):
        return False
    known = listed_atoms(field, False)
    return places_in(known, row) < places_in(known, thing)


def renamings(many):
    """All renamings of so many unknowns, rising."""
    if not is_number_in(many, 1, MOST_UNKNOWNS):
        raise NoMost("a whole number from 1 to 3 is due")
    return tuple(permutations(range(many)))


def all_images(atoms):
    """For each renaming, rising, the numbers that the atoms get by it."""
    return [images_of(atoms, renaming) for renaming in renamings(atoms.unknowns)]


def is_renaming(many, thing):
    """Whether the thing is a tuple of so many unknowns, each once."""
    if type(thing) is not tuple or len(thing) != many:
        return False
    return all([is_number_in(part, 0, many - 1) for part in thing]) and len(set(thing)) == many


def require_renaming(field, thing):
    """Raise NoRenaming where the thing is none of what is known to be a field."""
    if not is_renaming(field[2], thing):
        raise NoRenaming("a tuple of all the field's unknowns, each once, is due")


def _with_unknowns(atom, renaming):
    term, unknowns = atom
    return (term, tuple([renaming[unknown] for unknown in unknowns]))


def _with_row(atoms, row, renaming):
    return rising_row(atoms, [_with_unknowns(atom, renaming) for atom in row])


def renamed_atom(field, atom, renaming):
    """What the atom becomes by the renaming."""
    require_atom(field, atom)
    require_renaming(field, renaming)
    return _with_unknowns(atom, renaming)


def renamed_row(field, row, renaming):
    """What the row becomes by the renaming, rising again."""
    require_row(field, row)
    require_renaming(field, renaming)
    return _with_row(listed_atoms(field, False), row, renaming)


def kinds_of(field, row):
    """All unlike rows that the row becomes by renamings, as rows stand."""
    require_row(field, row)
    known = listed_atoms(field, False)
    found = {}
    for renaming in renamings(field[2]):
        renamed = _with_row(known, row, renaming)
        found[places_in(known, renamed)] = renamed
    return tuple([found[places] for places in sorted(found)])


def least_row(field, row):
    """The first of all rows that the row becomes by renamings."""
    return kinds_of(field, row)[0]


def are_alike(field, row, thing):
    """Whether the thing is a row that the row becomes by a renaming."""
    alike = kinds_of(field, row)
    return is_row(field, thing) and thing in alike
