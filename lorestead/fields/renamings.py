"""Rows of atoms, how they stand, and what they become where unknowns are renamed."""

from itertools import permutations

from lorestead.errors import NoMost, NoRenaming, NoRow
from lorestead.fields.fields import MOST_UNKNOWNS, all_atoms, atom_number, shown_atoms
from lorestead.fields.listing import images_of, numbers_in, row_at
from lorestead.fields.terms import is_number_in


def is_row(field, thing, *, shown=False):
    """Whether the thing is a row of atoms, or a situation, of the field."""
    atoms = shown_atoms(field) if shown else all_atoms(field)
    return numbers_in(atoms.row, thing) is not None


def require_row(atoms, thing):
    """The numbers of the row's atoms; NoRow where the thing is no row of these atoms."""
    numbers = numbers_in(atoms.row, thing)
    if numbers is None:
        raise NoRow("a rising tuple of unlike atoms of the field is due")
    return numbers


def row_of(field, atoms):
    """The row of a tuple of atoms, handed in in any order and perhaps more than once."""
    known = all_atoms(field)
    if type(atoms) is not tuple:
        raise NoRow("a tuple of atoms is due")
    return row_at(known, sorted(set([atom_number(known, atom) for atom in atoms])))


def is_ahead(field, row, thing):
    """Whether the row stands ahead of the thing, a row."""
    atoms = all_atoms(field)
    numbers = require_row(atoms, row)
    others = numbers_in(atoms.row, thing)
    return others is not None and numbers < others


def renamings(many):
    """All renamings of so many unknowns, rising."""
    if not is_number_in(many, 1, MOST_UNKNOWNS):
        raise NoMost("a whole number from 1 to 3 is due")
    return tuple(permutations(range(many)))


def all_images(atoms):
    """For each renaming, rising, the numbers that the atoms get by it."""
    return [images_of(atoms, renaming) for renaming in renamings(atoms.unknowns)]


def is_renaming(many, thing):
    """Whether the thing is a tuple of so many unknowns, each once."""
    if type(thing) is not tuple or len(thing) != many:
        return False
    return all([is_number_in(part, 0, many - 1) for part in thing]) and len(set(thing)) == many


def require_renaming(field, thing):
    """Raise NoRenaming where the thing is none of what is known to be a field."""
    if not is_renaming(field[2], thing):
        raise NoRenaming("a tuple of all the field's unknowns, each once, is due")


def renamed_atom(field, atom, renaming):
    """What the atom becomes by the renaming."""
    atoms = all_atoms(field)
    number = atom_number(atoms, atom)
    require_renaming(field, renaming)
    return atoms.row[images_of(atoms, renaming)[number]]


def renamed_row(field, row, renaming):
    """What the row becomes by the renaming, rising again."""
    atoms = all_atoms(field)
    numbers = require_row(atoms, row)
    require_renaming(field, renaming)
    images = images_of(atoms, renaming)
    return row_at(atoms, sorted([images[number] for number in numbers]))


def _kinds(atoms, numbers):
    """The numbers of all unlike rows that a row becomes by renamings, as rows stand."""
    found = {tuple(sorted([images[number] for number in numbers])): True for images in all_images(atoms)}
    return sorted(found)


def kinds_of(field, row):
    """All unlike rows that the row becomes by renamings, as rows stand."""
    atoms = all_atoms(field)
    return tuple([row_at(atoms, numbers) for numbers in _kinds(atoms, require_row(atoms, row))])


def least_row(field, row):
    """The first of all rows that the row becomes by renamings."""
    atoms = all_atoms(field)
    return row_at(atoms, _kinds(atoms, require_row(atoms, row))[0])


def are_alike(field, row, thing):
    """Whether the thing is a row that the row becomes by a renaming."""
    atoms = all_atoms(field)
    numbers = require_row(atoms, row)
    others = numbers_in(atoms.row, thing)
    if others is None or len(others) != len(numbers):
        return False
    return any([sorted([images[number] for number in numbers]) == others for images in all_images(atoms)])
