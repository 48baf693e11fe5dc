"""Zoos: fewest closed situations that part the shown rules that a theory has from all others."""

from lorestead.errors import NoSituation, NoWorld
from lorestead.fields.fields import found_terms, shown_atoms
from lorestead.fields.listing import mask_of, number_in, numbers_in
from lorestead.fields.renamings import all_images, renamings
from lorestead.rules.rules import require_rule
from lorestead.theories.theories import require_theory


def _situation_mask(shown, thing):
    """The mask of a situation of these shown atoms; NoSituation of what is none."""
    numbers = numbers_in(shown.row, thing)
    if numbers is None:
        raise NoSituation("a rising tuple of unlike shown atoms is due")
    return mask_of(numbers)


def _marked_tables(lattice, closed):
    """For each shown atom the table of those of the closed situations of which it can be the mark."""
    marked = []
    for own in lattice.owns:
        # A largest closed one without the atom: each closed one above it has it.
        without = closed ^ (closed & own)
        marked.append(without ^ (without & lattice.beneath(without)))
    return marked


def _any_of(tables):
    told = 0
    for table in tables:
        told |= table
    return told


def marked_kinds(lattice, closed):
    """The masks of each kind of those of the closed situations that have a mark, that of the least one first."""
    return lattice.kinds_in(_any_of(_marked_tables(lattice, closed)))


def zoo_of(theory):
    """(situations, marks): the least of each kind of closed situations that have a mark, and a mark of each."""
    require_theory(theory)
    lattice = theory.lattice()
    marked = _marked_tables(lattice, theory.closed_table())
    situations = []
    marks = []
    for kind in marked_kinds(lattice, theory.closed_table()):
        situations.append(lattice.situation_at(kind[0]))
        own_marks = [number for number, table in enumerate(marked) if table >> kind[0] & 1]
        marks.append(lattice.shown.row[own_marks[0]])
    return (tuple(situations), tuple(marks))


def shows_zoo(theory, thing):
    """Whether the thing is (situations, marks), a zoo of the theory."""
    require_theory(theory)
    if type(thing) is not tuple or len(thing) != 2:
        return False
    situations, marks = thing
    if type(situations) is not tuple or type(marks) is not tuple or len(situations) != len(marks):
        return False
    lattice = theory.lattice()
    marked = _marked_tables(lattice, theory.closed_table())
    left = _any_of(marked)
    for situation, mark in zip(situations, marks):
        numbers = numbers_in(lattice.shown.row, situation)
        number = number_in(lattice.shown, mark)
        if numbers is None or number < 0:
            return False
        mask = mask_of(numbers)
        if not (left & marked[number]) >> mask & 1:
            return False
        # No other of its kind may follow.
        left ^= mask_of(lattice.kind_of(mask))
    return left == 0


def breaks_in(field, situations, rule):
    """(number, renaming), the first of a situation in which the shown rule, so renamed, doesn't hold, or None."""
    shown = shown_atoms(field)
    if type(situations) is not tuple:
        raise NoSituation("a tuple of situations is due")
    masks = [_situation_mask(shown, situation) for situation in situations]
    ifs, thens = require_rule(shown, rule)
    renamed = []
    for renaming, images in zip(renamings(shown.unknowns), all_images(shown)):
        needed = mask_of([images[number] for number in ifs])
        renamed.append((renaming, needed, mask_of([images[number] for number in thens])))
    for number, mask in enumerate(masks):
        for renaming, needed, told in renamed:
            if mask & needed == needed and mask & told != told:
                return (number, renaming)
    return None


def _is_plain(field):
    notions, shown, _ = field
    return len(shown) == len(notions) and all([name in shown for name, _ in notions])


def is_plain(field):
    """Whether the thing is a field whose shown terms are just the names of all its notions."""
    return found_terms(field) != {} and _is_plain(field)


def world_of(field, situation):
    """The world of the unknowns that the situation of the plain field is."""
    shown = shown_atoms(field)
    if not _is_plain(field):
        raise NoWorld("a field whose shown terms are just the names of all its notions is due")
    _situation_mask(shown, situation)
    return (field[2], situation)
