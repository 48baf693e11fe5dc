"""Walks: rules reached step by step by rules and term rows, and rows by which rules are open."""

from lorestead.errors import NoWalk
from lorestead.fields.fields import all_atoms
from lorestead.fields.listing import images_of, mask_of, number_in, numbers_in, numbers_of, row_at
from lorestead.fields.renamings import is_renaming
from lorestead.rules.rules import require_rule, require_rules
from lorestead.theories.giving import giving_rows, grown, rule_rows, term_rows, told_at_once


def _taken(atoms, known, ifs, thens):
    """What came first by which rows, till all thens stand or nothing comes, and all that stands then.

    Told are triples: what was needed, what came, and the number and renaming of a rule, or None of a term row.
    """
    rules = rule_rows(atoms, known)
    left = [(needed, told, None) for needed, told in term_rows(atoms)]
    left += [(needed, told, rules[needed, told]) for needed, told in rules]
    taken = []
    standing = ifs
    grows = True
    while grows and standing & thens != thens:
        rest = []
        grows = False
        for row in left:
            needed, told, origin = row
            if standing & needed != needed:
                rest.append(row)
            elif told & ~standing:
                taken.append((needed, told & ~standing, origin))
                standing |= told
                grows = True
        left = rest
    return taken, standing


def _step(atoms, number, origin):
    atom = atoms.row[number]
    if origin is None:
        return ("term", atom)
    rule, renaming = origin
    return ("rule", rule, renaming, atom)


def found_walk(atoms, known, ifs, thens):
    """("walked", walk) to the rule of these masks by the known rules, or ("open", atoms)."""
    taken, standing = _taken(atoms, known, ifs, thens)
    if standing & thens != thens:
        return ("open", row_at(atoms, numbers_of(standing)))
    steps = []
    wanted = thens & ~ifs
    # From the last on, those alone are kept on which what is wanted rests.
    for needed, fresh, origin in reversed(taken):
        if fresh & wanted:
            steps += [_step(atoms, number, origin) for number in numbers_of(fresh & wanted)]
            wanted |= needed
    return ("walked", tuple(steps[::-1]))


def _asked(field, rules, rule):
    """The atoms, the known rules by their numbers, and the masks of the rule's ifs and thens."""
    atoms = all_atoms(field)
    known = require_rules(atoms, rules)
    ifs, thens = [mask_of(numbers) for numbers in require_rule(atoms, rule)]
    return atoms, known, ifs, thens


def walk_to(field, rules, rule):
    """("walked", walk) to the rule by the rules, or ("open", atoms) where there is none."""
    atoms, known, ifs, thens = _asked(field, rules, rule)
    return found_walk(atoms, known, ifs, thens)


def _read_rule_step(atoms, known, step):
    """As _read_step, of a step ("rule", number, renaming, atom)."""
    word, number, renaming, atom = step
    if word != "rule" or type(number) is not int or not 0 <= number < len(known):
        return None
    if not is_renaming(atoms.unknowns, renaming):
        return None
    images = images_of(atoms, renaming)
    ifs, thens = known[number]
    place = number_in(atoms, atom)
    if place not in [images[at] for at in thens]:
        return None
    return ([mask_of([images[at] for at in ifs])], 1 << place)


def _read_step(atoms, known, by_terms, step):
    """The masks of which one must stand ahead of the step, and that of its atom; None of what can be no step."""
    if type(step) is not tuple:
        return None
    if len(step) == 4:
        return _read_rule_step(atoms, known, step)
    if len(step) != 2 or step[0] != "term":
        return None
    place = number_in(atoms, step[1])
    if place < 0:
        return None
    return ([needed for needed, told in by_terms if told >> place & 1], 1 << place)


def _read_walk(atoms, known, thing):
    """Each step of a tuple as _read_step tells it, None where there is none."""
    if type(thing) is not tuple:
        return None
    by_terms = term_rows(atoms)
    steps = [_read_step(atoms, known, by_terms, step) for step in thing]
    return None if None in steps else steps


def _reaches(steps, standing, thens):
    """Whether each of the read steps may be taken behind those ahead of it, and all thens stand behind the last."""
    for choices, atom in steps:
        if not any([standing & needed == needed for needed in choices]):
            return False
        standing |= atom
    return standing & thens == thens


def is_walk(atoms, known, ifs, thens, thing):
    """Whether the thing is a walk to the rule of these masks."""
    steps = _read_walk(atoms, known, thing)
    return steps is not None and _reaches(steps, ifs, thens)


def is_open_by(atoms, known, ifs, thens, thing):
    """Whether the rule of these masks is open by the thing, a row."""
    numbers = numbers_in(atoms.row, thing)
    if numbers is None:
        return False
    mask = mask_of(numbers)
    if mask & ifs != ifs or mask & thens == thens:
        return False
    return grown(giving_rows(atoms, known), mask) == mask


def shows_walk(field, rules, rule, thing):
    """Whether the thing is ("walked", walk) or ("open", atoms) of the rule by the rules."""
    atoms, known, ifs, thens = _asked(field, rules, rule)
    if type(thing) is not tuple or len(thing) != 2:
        return False
    word, told = thing
    if word == "walked":
        return is_walk(atoms, known, ifs, thens, told)
    return word == "open" and is_open_by(atoms, known, ifs, thens, told)


def thinned_walk(field, rules, rule, walk):
    """The walk to the rule without the steps, from the last to the first, without which what is left is one."""
    atoms, known, ifs, thens = _asked(field, rules, rule)
    steps = _read_walk(atoms, known, walk)
    if steps is None or not _reaches(steps, ifs, thens):
        raise NoWalk("a walk to the rule by the rules is due")
    ahead = [ifs]
    for _, atom in steps:
        ahead.append(ahead[-1] | atom)
    kept = []
    for at in reversed(range(len(steps))):
        if not _reaches([steps[later] for later in kept], ahead[at], thens):
            kept = [at] + kept
    return tuple([walk[at] for at in kept])


def rounds_of(field, rules, rule):
    """How often all that comes at once must be put to the ifs till all thens stand, None of an open rule."""
    atoms, known, ifs, thens = _asked(field, rules, rule)
    rows = giving_rows(atoms, known)
    rounds = 0
    while ifs & thens != thens:
        told = ifs | told_at_once(rows, ifs)
        if told == ifs:
            return None
        ifs = told
        rounds += 1
    return rounds
