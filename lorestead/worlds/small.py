"""Small worlds: those of up to three things, in which some rules hold, and the first that breaks a rule."""

from itertools import permutations

from lorestead.errors import NoMost, TooWide
from lorestead.fields.fields import all_atoms
from lorestead.fields.listing import numbers_of
from lorestead.fields.terms import is_number_in
from lorestead.rules.rules import require_rule, require_rules
from lorestead.worlds.crowds import Crowd, all_ties, broken_in, ways_in

MOST_THINGS = 3
MOST_TIES = 12
# A crowd of all worlds of so many ties still has whole numbers of not too many figures.
MOST_FREE = 11


def require_most(thing):
    """Raise NoMost of what is no whole number from 1 to 3."""
    if not is_number_in(thing, 1, MOST_THINGS):
        raise NoMost("a whole number from 1 to 3 is due")


def require_narrow(notions, things):
    """Raise TooWide where of so many things more than twelve ties could be."""
    if len(all_ties(notions, things)) > MOST_TIES:
        raise TooWide("of so many things more than twelve ties could be")


def _tables(free):
    """For each of so many ties, which of all rows of them it is in, the rows standing as Python sorts them.

    The first row is empty; then come those that begin with the first tie, each behind it a row of the later ones;
    then the rows of the later ones by themselves, which aren't empty.
    """
    tables = []
    size = 1
    for _ in range(free):
        tables = [((1 << size) - 1) << 1] + [table << 1 | table << size for table in tables]
        size *= 2
    return tables


def _row_in(free, number):
    """Which of so many ties are in the row of that number, as they stand in tables."""
    row = []
    size = 1 << free
    for tie in range(free):
        size //= 2
        if number == 0:
            break
        if number <= size:
            row.append(tie)
            number -= 1
        else:
            number -= size
    return row


class Block:
    """The worlds that have the first so many ties that could be, none or any of the last so many, and no others.

    They stand as Python sorts their ties; the first so many of them are left out.
    """

    def __init__(self, field, things, fixed, free, left_out):
        notions, _, many = field
        self.ties = all_ties(notions, things)
        self.fixed = self.ties[:fixed]
        self.free = self.ties[len(self.ties) - free:]
        full = (1 << (1 << free)) - 1
        self.cells = [full] * fixed + [0] * (len(self.ties) - fixed - free) + _tables(free)
        self.crowd = Crowd(notions, things, full, self.cells)
        self.ways = ways_in(things, many)
        # Which worlds are asked for, a bit each.
        self.left = full >> left_out << left_out

    def breakers(self, rule):
        """Which of the worlds that are left break the rule."""
        return self.left & broken_in(self.crowd, rule, self.ways)

    def keep_rules(self, rules):
        """Leave those worlds alone in which the rules hold."""
        for rule in rules:
            if self.left:
                self.left ^= self.breakers(rule)

    def keep_least(self):
        """Leave those worlds alone that are the first of their likes."""
        for order in permutations(range(self.crowd.things)):
            same = self.crowd.full
            for (name, row), cell in zip(self.ties, self.cells):
                other = self.cells[self.ties.index((name, tuple([order[thing] for thing in row])))]
                # At the first tie that but one of two like worlds has, that one stands ahead.
                self.left ^= self.left & same & other & ~cell
                same ^= same & (other ^ cell)

    def world_at(self, number):
        """The world of that number."""
        row = [self.free[tie] for tie in _row_in(len(self.free), number)]
        return (self.crowd.things, tuple(self.fixed + row))


def _blocks(field, things):
    """All worlds of so many things, in order."""
    many = len(all_ties(field[0], things))
    if many <= MOST_FREE:
        return [Block(field, things, 0, many, 0)]
    # The world without ties goes ahead of those with the first tie, all others behind them.
    return [Block(field, things, 0, 0, 0), Block(field, things, 1, many - 1, 0), Block(field, things, 0, many - 1, 1)]


def small_blocks(field, things, rules):
    """The blocks of worlds of so many things with the small ones alone left in which the rules hold."""
    blocks = _blocks(field, things)
    for block in blocks:
        block.keep_rules(rules)
        block.keep_least()
    return blocks


def _asked_blocks(field, things, rules):
    """What small_blocks tells, after a look at what was handed in."""
    atoms = all_atoms(field)
    require_most(things)
    require_rules(atoms, rules)
    require_narrow(field[0], things)
    return small_blocks(field, things, rules)


def small_worlds(field, things, *, rules=()):
    """All worlds of so many things in which the rules hold, the first of like ones alone, by ties as Python sorts."""
    blocks = _asked_blocks(field, things, rules)
    return tuple([block.world_at(number) for block in blocks for number in numbers_of(block.left)])


def many_small(field, things, *, rules=()):
    """How many small worlds of so many things there are in which the rules hold."""
    return sum([len(numbers_of(block.left)) for block in _asked_blocks(field, things, rules)])


def first_breaker(field, rule, rules, most):
    """The first world of at most so many things in which the rules hold and that breaks the rule, or None."""
    for things in range(1, most + 1):
        for block in _blocks(field, things):
            block.left = block.breakers(rule)
            block.keep_rules(rules)
            # The first of all worlds that are left is the first of its likes as well.
            if block.left:
                return block.world_at(numbers_of(block.left)[0])
    return None


def breaker_of(field, rule, *, rules=(), most=MOST_THINGS):
    """The first small world of at most so many things in which the rules hold and that breaks the rule, or None."""
    atoms = all_atoms(field)
    require_rule(atoms, rule)
    require_rules(atoms, rules)
    require_most(most)
    require_narrow(field[0], most)
    return first_breaker(field, rule, rules, most)
