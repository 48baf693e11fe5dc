"""What the document says of closed situations, lists, zoos and found rules, worked out plainly from closures alone."""

import itertools

from lorestead.fields.fields import atoms_of
from lorestead.theories.giving import is_whole
from lorestead.theories.theories import Theory
from tests import plain
from tests.things import BROAD, CHAIN, DEEP, FIELD, FLAT, LONE, NOTIONS, WIDE, WORDY

# Ten shown atoms.
TEN = ((("near", 2), ("likes", 2), ("kind", 1)), ("kind", ("chain", "near", "likes"), ("turned", "likes")), 2)
# One shown atom; three of three unknowns; shown terms that tell of one another.
SINGLE = (NOTIONS, ("kind",), 1)
THREE = ((("kind", 1),), ("kind",), 3)
KNIT = (NOTIONS, ("likes", ("turned", "likes")), 2)
# One whose situations are worlds.
PLAIN = (NOTIONS, ("kind", "likes"), 2)
SMALL_ONES = (FIELD, LONE, SINGLE, THREE, WORDY, KNIT, BROAD, PLAIN)
LARGE_ONES = (WIDE, FLAT, TEN, DEEP)


def tellings(field, seed=0):
    """Some ways to tell a theory of the field, as keywords."""
    told = [{}, {"worlds": ()}, {"situations": ()}]
    told += [{"rules": tuple(plain.some_rules(field, many, shown=many % 2 == 0, seed=seed))} for many in (1, 2, 4, 5)]
    told += [{"worlds": tuple(plain.some_worlds(field, many, seed=seed))} for many in (1, 3, 9)]
    whole = [row for row in plain.all_situations(field)[::3] if is_whole(field, row)]
    told += [{"situations": tuple(whole[seed:seed + many])} for many in (1, 3, 8)]
    return told


def theories(field, seed=0):
    """Theories told so."""
    return [Theory(field, **told) for told in tellings(field, seed)]


def grounds(theory, seed=0):
    """Some grounds of the theory: none, rules that it has, shown or not, and those that it is told by."""
    field = theory.field()
    shown = theory.situations() is not None
    asked = plain.some_rules(field, 60, shown=shown, ifs=4, thens=1, seed=seed)
    had = [rule for rule in asked if theory.has(rule)]
    return [(), tuple(had[:2]), tuple(had[2:9]), theory.rules()]


def closures_by(theory):
    """The closure of each situation, by the situation."""
    return {row: theory.closure(row) for row in plain.all_situations(theory.field())}


def closed(theory):
    """The closed situations, in order."""
    return [row for row, closure in closures_by(theory).items() if row == closure]


def keeps(theory, rules, ground=()):
    """Whether the ground and the list have the closures of the theory."""
    return closures_by(Theory(theory.field(), rules=ground + rules)) == closures_by(theory)


def are_stakes(theory, thing, ground=()):
    """Whether the situations are stakes, as the words say."""
    field = theory.field()
    loose = Theory(field, rules=ground)
    if not all(loose.closure(row) == row and theory.closure(row) != row for row in thing):
        return False
    for one, other in itertools.combinations(thing, 2):
        for renaming in plain.renamings(field):
            turned = set(plain.renamed(field, one, renaming))
            both = set(theory.closure(plain.row_of(field, turned & set(other))))
            if not both <= turned and not both <= set(other):
                return False
    return True


def holds(field, row, rule):
    """Whether the rule holds in the situation."""
    return all(not set(plain.renamed(field, rule[0], renaming)) <= set(row)
               or set(plain.renamed(field, rule[1], renaming)) <= set(row) for renaming in plain.renamings(field))


def is_zoo(theory, situations, marks):
    """Whether the situations and marks are a zoo, as the words say; by closures, as shown rules are had by these."""
    field = theory.field()
    shown = atoms_of(field, shown=True)
    if len(situations) != len(marks) or any(theory.closure(row) != row for row in situations):
        return False
    for one, other in itertools.combinations(situations, 2):
        if any(plain.renamed(field, one, renaming) == other for renaming in plain.renamings(field)):
            return False
    for row, mark in zip(situations, marks):
        if mark not in shown or mark in row:
            return False
        for atom in set(shown) - set(row):
            if mark not in theory.closure(plain.row_of(field, row + (atom,))):
                return False
    rows = [set(plain.renamed(field, row, renaming)) for row in situations for renaming in plain.renamings(field)]
    for row, closure in closures_by(theory).items():
        left = set(shown)
        for other in rows:
            left &= other if set(row) <= other else left
        if left != set(closure):
            return False
    return True


def is_prime(theory, rule):
    """Whether the shown rule is prime."""
    ifs, thens = rule
    if len(thens) != 1 or thens[0] in ifs or thens[0] not in theory.closure(ifs):
        return False
    parts = [part for many in range(len(ifs)) for part in itertools.combinations(ifs, many)]
    return not any(thens[0] in theory.closure(part) for part in parts)


def all_primes(theory):
    """All prime rules, in order."""
    shown = atoms_of(theory.field(), shown=True)
    rules = [(row, (atom,)) for row in plain.all_situations(theory.field()) for atom in shown]
    found = [rule for rule in rules if rule[1][0] in theory.closure(rule[0]) and is_prime(theory, rule)]
    return sorted(found, key=lambda rule: plain.rule_key(theory.field(), rule))


def least_rule(field, rule):
    """The first of all that the rule becomes."""
    turned = [tuple(plain.renamed(field, row, renaming) for row in rule) for renaming in plain.renamings(field)]
    return min(turned, key=lambda other: plain.rule_key(field, other))


def found(theory):
    """The least of each kind of prime rules, rising."""
    return [rule for rule in all_primes(theory) if least_rule(theory.field(), rule) == rule]


def uses(field, rules, ground=()):
    """The use of each row."""
    whole = closures_by(Theory(field, rules=ground + rules))
    told = []
    for at in range(len(rules)):
        less = closures_by(Theory(field, rules=ground + rules[:at] + rules[at + 1:]))
        told.append(sum(whole[row] != less[row] for row in whole))
    return told


def is_book(theory, book, ground=()):
    """Whether the pairs of a list that is known to have as few rows as can be are a book."""
    field = theory.field()
    rules = tuple(rule for rule, _ in book)
    keys = [(-use, plain.rule_key(field, rule)) for rule, use in book]
    return (keeps(theory, rules, ground) and [use for _, use in book] == uses(field, rules, ground)
            and keys == sorted(keys) and all(least_rule(field, rule) == rule for rule in rules))
