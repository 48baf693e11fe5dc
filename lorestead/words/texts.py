"""Texts of atoms, rows, rules, worlds and fields, and what is read of such."""

from lorestead.errors import NoText
from lorestead.fields.fields import all_atoms, atom_number, is_field, require_field
from lorestead.fields.listing import row_at
from lorestead.fields.renamings import require_row
from lorestead.fields.terms import MOST_TUPLES, WORDS
from lorestead.rules.rules import MOST_IN_ROW, require_rule
from lorestead.worlds.crowds import all_ties
from lorestead.worlds.worlds import MOST_THINGS_IN_ALL, require_ties

FIGURES = ("0", "1", "2", "3", "4", "5")
OF_TWO_PARTS = ("both", "either", "chain")
NO_ATOMS = "-"


def _with_numbers(text, numbers):
    return " ".join([text] + [FIGURES[number] for number in numbers])


def _text_of_term(term):
    """The text of what is known to be a term."""
    if type(term) is str:
        return term
    return " ".join([term[0]] + [_text_of_term(part) for part in term[1:]])


def _term_texts(atoms):
    """The text of each term of the field, by the term."""
    return {term: _text_of_term(term) for _, term, _ in atoms.spans}


def _text_of_atom(texts, atom):
    term, unknowns = atom
    return _with_numbers(texts[term], unknowns)


def _text_of_row(texts, row):
    return " & ".join([_text_of_atom(texts, atom) for atom in row]) if row else NO_ATOMS


def atom_text(field, atom):
    """The text of the atom: its term's text and its unknowns."""
    atoms = all_atoms(field)
    atom_number(atoms, atom)
    return _text_of_atom(_term_texts(atoms), atom)


def row_text(field, row):
    """The text of the row of atoms."""
    atoms = all_atoms(field)
    require_row(atoms, row)
    return _text_of_row(_term_texts(atoms), row)


def rule_text(field, rule):
    """The text of the rule: its ifs and its thens."""
    atoms = all_atoms(field)
    require_rule(atoms, rule)
    texts = _term_texts(atoms)
    return " > ".join([_text_of_row(texts, row) for row in rule])


def world_text(field, world):
    """The text of the world: how many things, and its ties."""
    require_field(field)
    require_ties(field[0], world)
    things, ties = world
    return " / ".join([FIGURES[things]] + [_with_numbers(name, row) for name, row in ties])


def _text_of_field(field):
    notions, shown, many = field
    named = ", ".join([_with_numbers(name, [places]) for name, places in notions])
    terms = ", ".join([_text_of_term(term) for term in shown])
    return " ; ".join([named, terms, FIGURES[many]])


def field_text(field):
    """The text of the field: its notions, its shown terms, and how many unknowns."""
    require_field(field)
    return _text_of_field(field)


def _numbers_read(known, parts):
    """The numbers that the parts have in a row of known texts, None where they aren't known or don't rise."""
    places = {text: number for number, text in enumerate(known)}
    numbers = [places.get(part, -1) for part in parts]
    if -1 in numbers or numbers != sorted(set(numbers)):
        return None
    return numbers


def _row_read(known, text, least):
    """The numbers of a row of at least so many atoms, of all whose texts are known, None of anything else."""
    parts = [] if text == NO_ATOMS else text.split(" & ")
    return _numbers_read(known, parts) if least <= len(parts) <= MOST_IN_ROW else None


def read_rule(field, text):
    """The rule of the field that is so written."""
    atoms = all_atoms(field)
    parts = text.split(" > ") if type(text) is str else []
    texts = _term_texts(atoms)
    known = [_text_of_atom(texts, atom) for atom in atoms.row]
    if len(parts) == 2:
        ifs = _row_read(known, parts[0], 0)
        thens = _row_read(known, parts[1], 1)
        if ifs is not None and thens is not None:
            return (row_at(atoms, ifs), row_at(atoms, thens))
    raise NoText("a rule of the field, as it is written, is due")


def read_world(field, text):
    """The world of the field that is so written."""
    require_field(field)
    parts = text.split(" / ") if type(text) is str else [""]
    if parts[0] in FIGURES[1:MOST_THINGS_IN_ALL + 1]:
        things = FIGURES.index(parts[0])
        ties = all_ties(field[0], things)
        numbers = _numbers_read([_with_numbers(name, row) for name, row in ties], parts[1:])
        if numbers is not None:
            return (things, tuple([ties[number] for number in numbers]))
    raise NoText("a world of the field, as it is written, is due")


def _begun_term(words, tuples):
    """What could be a term of at most so many tuples within one another, from the first word on, and the words behind.

    What is no term has None in it.
    """
    if not words or words[0] in WORDS and tuples == 0:
        return None, []
    if words[0] not in WORDS:
        return words[0], words[1:]
    first, left = _begun_term(words[1:], tuples - 1)
    if words[0] not in OF_TWO_PARTS:
        return (words[0], first), left
    second, left = _begun_term(left, tuples - 1)
    return (words[0], first, second), left


def _begun_field(parts):
    """What could be a field, of three parts of its text, None where there is none."""
    notions = []
    for part in parts[0].split(", "):
        name, _, figure = part.partition(" ")
        if figure not in FIGURES:
            return None
        notions.append((name, FIGURES.index(figure)))
    if parts[2] not in FIGURES:
        return None
    # Words behind a term are found when the field is written again.
    shown = [_begun_term(part.split(" "), MOST_TUPLES)[0] for part in parts[1].split(", ")]
    return (tuple(notions), tuple(shown), FIGURES.index(parts[2]))


def read_field(text):
    """The field that is so written."""
    parts = text.split(" ; ") if type(text) is str else []
    field = _begun_field(parts) if len(parts) == 3 else None
    if not is_field(field) or _text_of_field(field) != text:
        raise NoText("a field, as it is written, is due")
    return field
