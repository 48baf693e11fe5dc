"""Fields: notions, shown terms and unknowns, and the atoms that they make."""

from lorestead.errors import NoAtom, NoField
from lorestead.fields.listing import Atoms
from lorestead.fields.terms import enter_term, is_notions, is_number_in, parts_by_text, term_places, text_of

MOST_SHOWN = 10
MOST_ATOMS = 40
MOST_SHOWN_TERMS = 4
MOST_UNKNOWNS = 3


def found_terms(thing):
    """The terms of a field with their places, by their texts, parts ahead of wholes; {} of what is no field."""
    if type(thing) is not tuple or len(thing) != 3:
        return {}
    notions, shown, many = thing
    if not is_notions(notions) or type(shown) is not tuple or not 1 <= len(shown) <= MOST_SHOWN_TERMS:
        return {}
    if not is_number_in(many, 1, MOST_UNKNOWNS):
        return {}
    names = {name: places for name, places in notions}
    found = {name: (name, names[name]) for name in names}
    texts = [enter_term(names, found, term) for term in shown]
    if "" in texts or len(set(texts)) < len(texts):
        return {}
    sizes = (0, many, many * many)
    if sum([sizes[found[text][1]] for text in texts]) > MOST_SHOWN:
        return {}
    if sum([sizes[places] for _, places in found.values()]) > MOST_ATOMS:
        return {}
    return found


def _listing(field, shown):
    found = found_terms(field)
    if not found:
        raise NoField("a field (notions, shown, many) of at most ten shown atoms, forty in all, is due")
    return Atoms(field, found, shown)


def all_atoms(field):
    """All atoms of the field with their numbers; NoField of what is none."""
    return _listing(field, False)


def shown_atoms(field):
    """The shown atoms of the field with their numbers among these; NoField of what is none."""
    return _listing(field, True)


def _are_shown(notions, thing):
    """Whether the thing is a tuple of one to four unlike terms of what are known to be notions."""
    if not isinstance(thing, tuple) or not 1 <= len(thing) <= MOST_SHOWN_TERMS:
        return False
    if not all([term_places(notions, part) > 0 for part in thing]):
        return False
    return len({text_of(term) for term in thing}) == len(thing)


def is_field(thing):
    """Whether the thing is a field (notions, shown, many) of not too many atoms."""
    if not isinstance(thing, tuple) or len(thing) != 3:
        return False
    notions, shown, many = thing
    if not is_notions(notions) or not _are_shown(notions, shown):
        return False
    if not is_number_in(many, 1, MOST_UNKNOWNS):
        return False
    return len(listed_atoms(thing, True)) <= MOST_SHOWN and len(listed_atoms(thing, False)) <= MOST_ATOMS


def require_field(thing):
    """Raise NoField where the thing is none."""
    if not is_field(thing):
        raise NoField("a field (notions, shown, many) of at most ten shown atoms, forty in all, is due")


def _listed_terms(field):
    notions, shown, _ = field
    return parts_by_text([name for name, _ in notions] + list(shown))


def terms_of(field):
    """The notions' names and all parts of the shown terms, each once, by their texts."""
    require_field(field)
    return _listed_terms(field)


def _unknown_rows(many, places):
    """All tuples of so many unknowns, as Python sorts them."""
    if places == 1:
        return [(one,) for one in range(many)]
    return [(one, other) for one in range(many) for other in range(many)]


def listed_atoms(field, shown):
    """The atoms, all or the shown ones, of what is known to be a field, in order."""
    notions, chosen, many = field
    terms = [term for term in _listed_terms(field) if not shown or term in chosen]
    return tuple([
        (term, unknowns) for term in terms for unknowns in _unknown_rows(many, term_places(notions, term))
    ])


def atoms_of(field, *, shown=False):
    """The atoms of the field in order: all, or the shown ones."""
    require_field(field)
    return listed_atoms(field, shown)


def has_atom(atoms, thing):
    """Whether the thing is one of the atoms."""
    if not isinstance(thing, tuple) or len(thing) != 2 or not isinstance(thing[1], tuple):
        return False
    # Python takes True and 1 for equal, so truths must be told apart ahead of the search.
    if any([isinstance(unknown, bool) for unknown in thing[1]]):
        return False
    return thing in atoms


def is_atom(field, thing, *, shown=False):
    """Whether the thing is an atom, or a shown atom, of the field."""
    require_field(field)
    return has_atom(listed_atoms(field, shown), thing)


def require_atom(field, thing):
    """Raise NoField or NoAtom where the one or the other is none."""
    if not is_atom(field, thing):
        raise NoAtom("an atom of the field is due")


def place_of(field, atom):
    """The number of the atom among all atoms of the field."""
    require_atom(field, atom)
    return listed_atoms(field, False).index(atom)
