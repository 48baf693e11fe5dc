"""Term rows, and what rules and term rows give of a row of atoms."""

from lorestead.fields.fields import all_atoms
from lorestead.fields.listing import mask_of, numbers_in, numbers_of, row_at
from lorestead.fields.renamings import all_images, renamings, require_row
from lorestead.rules.rules import require_rules


def _rows_of_two(starts, many, word):
    """The term rows of a term of this word that speaks of two unknowns the other way round, of three, or of one."""
    whole, first, second = starts
    unknowns = list(range(many))
    if word == "turned":
        pairs = [(whole + one * many + other, first + other * many + one) for one in unknowns for other in unknowns]
        return [(1 << one, 1 << other) for one, other in pairs] + [(1 << other, 1 << one) for one, other in pairs]
    if word == "some":
        return [(1 << first + one * many + other, 1 << whole + one) for one in unknowns for other in unknowns]
    return [
        (1 << first + one * many + amid | 1 << second + amid * many + other, 1 << whole + one * many + other)
        for one in unknowns for amid in unknowns for other in unknowns
    ]


def _rows_of_same(starts, size, word, every):
    """The term rows of a term of this word that speaks of the same unknowns as what it is made of."""
    rows = []
    for place in range(size):
        whole, first, second = [1 << start + place for start in starts]
        if word == "not":
            rows.append((whole | first, every))
        elif word == "both":
            rows += [(whole, first | second), (first | second, whole)]
        else:
            rows += [(first, whole), (second, whole)]
    return rows


def term_rows(atoms):
    """All term rows of the field as pairs of masks: of what is there, and of what is told by it."""
    many = atoms.unknowns
    every = (1 << len(atoms.row)) - 1
    starts = {term: start for start, term, _ in atoms.spans}
    rows = []
    for start, term, places in atoms.spans:
        if type(term) is tuple:
            # The last part stands for the second where there is but one.
            told = (start, starts[term[1]], starts[term[-1]])
            if term[0] in ("not", "both", "either"):
                rows += _rows_of_same(told, many if places == 1 else many * many, term[0], every)
            else:
                rows += _rows_of_two(told, many, term[0])
    return rows


def rule_rows(atoms, known):
    """For each pair of masks, of ifs and thens of a rule so renamed, the first number and renaming.

    Known are the rules by the numbers of their atoms.
    """
    rows = {}
    for renaming, images in zip(renamings(atoms.unknowns), all_images(atoms)):
        bits = [1 << image for image in images]
        for number, (ifs, thens) in enumerate(known):
            pair = (sum([bits[at] for at in ifs]), sum([bits[at] for at in thens]))
            if pair not in rows:
                rows[pair] = (number, renaming)
    return rows


def giving_rows(atoms, known):
    """All pairs of masks by which atoms come by term rows and by the known rules in all renamings."""
    return term_rows(atoms) + list(rule_rows(atoms, known))


def grown(rows, mask):
    """What comes by the pairs of masks, again and again, with the mask."""
    left = rows
    before = -1
    while mask != before:
        before = mask
        rest = []
        for row in left:
            needed, told = row
            if mask & needed == needed:
                mask |= told
            else:
                rest.append(row)
        left = rest
    return mask


def told_at_once(rows, mask):
    """What the pairs of masks tell by the mask, each but once."""
    found = 0
    for needed, told in rows:
        if mask & needed == needed:
            found |= told
    return found


def told_by_terms(field, row):
    """The row of all atoms that term rows tell by this row at once and that aren't in it."""
    atoms = all_atoms(field)
    mask = mask_of(require_row(atoms, row))
    return row_at(atoms, numbers_of(told_at_once(term_rows(atoms), mask) & ~mask))


def given_of(field, row, *, rules=()):
    """The row of all that comes of this row by the rules in all renamings and by term rows, with the row."""
    atoms = all_atoms(field)
    mask = mask_of(require_row(atoms, row))
    known = require_rules(atoms, rules)
    return row_at(atoms, numbers_of(grown(giving_rows(atoms, known), mask)))


def shown_numbers(field, atoms):
    """The numbers of the shown atoms among all."""
    return [number for number, (term, _) in enumerate(atoms.row) if term in field[1]]


def is_whole(field, thing):
    """Whether the thing is a situation with all shown atoms that term rows alone give of it."""
    atoms = all_atoms(field)
    numbers = numbers_in(atoms.row, thing)
    if numbers is None:
        return False
    mask = mask_of(numbers)
    return grown(term_rows(atoms), mask) & mask_of(shown_numbers(field, atoms)) == mask
