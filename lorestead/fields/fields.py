"""Fields: notions, shown terms and unknowns, and the atoms that they make."""

from lorestead.errors import NoAtom, NoField
from lorestead.fields.listing import Atoms, number_in
from lorestead.fields.terms import enter_term, is_notions, is_number_in, terms_by_text

MOST_SHOWN = 10
MOST_ATOMS = 40
MOST_SHOWN_TERMS = 4
MOST_UNKNOWNS = 3


def found_terms(thing):
    """The terms of a field with their places, by their texts, parts ahead of wholes; {} of what is no field."""
    if type(thing) is not tuple or len(thing) != 3:
        return {}
    notions, shown, many = thing
    if not is_notions(notions) or type(shown) is not tuple or not 1 <= len(shown) <= MOST_SHOWN_TERMS:
        return {}
    if not is_number_in(many, 1, MOST_UNKNOWNS):
        return {}
    names = {name: places for name, places in notions}
    found = {name: (name, names[name]) for name in names}
    texts = [enter_term(names, found, term) for term in shown]
    if "" in texts or len(set(texts)) < len(texts):
        return {}
    sizes = (0, many, many * many)
    if sum([sizes[found[text][1]] for text in texts]) > MOST_SHOWN:
        return {}
    if sum([sizes[places] for _, places in found.values()]) > MOST_ATOMS:
        return {}
    return found


def is_field(thing):
    """Whether the thing is a field (notions, shown, many) of not too many atoms."""
    return found_terms(thing) != {}


def _require_terms(field):
    found = found_terms(field)
    if not found:
        raise NoField("a field (notions, shown, many) of at most ten shown atoms, forty in all, is due")
    return found


def require_field(thing):
    """Raise NoField where the thing is none."""
    _require_terms(thing)


def all_atoms(field):
    """All atoms of the field with their numbers; NoField of what is none."""
    return Atoms(field, _require_terms(field), False)


def shown_atoms(field):
    """The shown atoms of the field with their numbers among these; NoField of what is none."""
    return Atoms(field, _require_terms(field), True)


def terms_of(field):
    """The notions' names and all parts of the shown terms, each once, by their texts."""
    return terms_by_text(_require_terms(field))


def atoms_of(field, *, shown=False):
    """The atoms of the field in order: all, or the shown ones."""
    return tuple(Atoms(field, _require_terms(field), shown).row)


def is_atom(field, thing, *, shown=False):
    """Whether the thing is an atom, or a shown atom, of the field."""
    return number_in(Atoms(field, _require_terms(field), shown), thing) >= 0


def atom_number(atoms, thing):
    """The number of the thing among the atoms; NoAtom where it is none of them."""
    number = number_in(atoms, thing)
    if number < 0:
        raise NoAtom("an atom of the field is due")
    return number


def place_of(field, atom):
    """The number of the atom among all atoms of the field."""
    return atom_number(all_atoms(field), atom)
