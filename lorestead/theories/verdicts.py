"""Verdicts: rules walked by others, broken by a first small world, or standing in all of them."""

from lorestead.fields.fields import all_atoms
from lorestead.fields.listing import mask_of
from lorestead.rules.rules import first_break, require_rule, require_rules
from lorestead.theories.giving import giving_rows, grown
from lorestead.theories.walks import found_walk, is_open_by, is_walk
from lorestead.worlds.small import first_breaker, require_most, require_narrow
from lorestead.worlds.worlds import crowd_of, tie_numbers

MOST_THINGS = 3


def _asked(field, rule, rules, most):
    """The atoms, the known rules by their numbers, and the masks of the rule's ifs and thens."""
    atoms = all_atoms(field)
    ifs, thens = [mask_of(numbers) for numbers in require_rule(atoms, rule)]
    known = require_rules(atoms, rules)
    require_most(most)
    return atoms, known, ifs, thens


def _break_in(field, world, rule):
    return first_break(crowd_of(field[0], world), rule, field[2])


def verdict_on(field, rule, *, rules=(), most=MOST_THINGS):
    """("walked", walk) by the rules, else ("broken", world, way) by a small world of them, else ("stands", atoms)."""
    atoms, known, ifs, thens = _asked(field, rule, rules, most)
    told = found_walk(atoms, known, ifs, thens)
    if told[0] == "walked":
        return told
    require_narrow(field[0], most)
    world = first_breaker(field, rule, rules, most)
    if world is None:
        return ("stands", told[1])
    return ("broken", world, _break_in(field, world, rule))


def _is_broken_by(field, rule, world, thing):
    """Whether the thing is ("broken", world, way) by this world, perhaps None, and its break."""
    if world is None or thing[0] != "broken" or len(thing) != 3 or tie_numbers(field[0], thing[1]) is None:
        return False
    if type(thing[2]) is not tuple or not all([type(one) is int for one in thing[2]]):
        return False
    return thing[1:] == (world, _break_in(field, world, rule))


def shows_verdict(field, rule, thing, *, rules=(), most=MOST_THINGS):
    """Whether the thing is a verdict on the rule beside the rules, by small worlds of at most so many things."""
    atoms, known, ifs, thens = _asked(field, rule, rules, most)
    is_open = grown(giving_rows(atoms, known), ifs) & thens != thens
    if is_open:
        require_narrow(field[0], most)
    if type(thing) is not tuple or len(thing) not in (2, 3):
        return False
    if not is_open:
        return thing[0] == "walked" and len(thing) == 2 and is_walk(atoms, known, ifs, thens, thing[1])
    world = first_breaker(field, rule, rules, most)
    if thing[0] == "stands" and len(thing) == 2:
        return world is None and is_open_by(atoms, known, ifs, thens, thing[1])
    return _is_broken_by(field, rule, world, thing)
