"""Worlds: things in ties, what terms hold of, and worlds that are like."""

from itertools import permutations

from lorestead.errors import NoTerm, NoWay, NoWorld
from lorestead.fields.fields import require_field
from lorestead.fields.listing import numbers_in
from lorestead.fields.terms import is_number_in, parts_within
from lorestead.worlds.crowds import Crowd, all_ties, cells_of

MOST_THINGS_IN_ALL = 5


def tie_numbers(notions, thing):
    """The numbers of a world's ties among all that there could be of its things, None of no world."""
    if type(thing) is not tuple or len(thing) != 2 or not is_number_in(thing[0], 1, MOST_THINGS_IN_ALL):
        return None
    return numbers_in(all_ties(notions, thing[0]), thing[1])


def require_ties(notions, thing):
    """What tie_numbers tells; NoWorld of no world."""
    numbers = tie_numbers(notions, thing)
    if numbers is None:
        raise NoWorld("a pair of how many things, one to five, and of their ties, rising, is due")
    return numbers


def crowd_of(notions, world):
    """A crowd of this world alone; NoWorld of no world."""
    numbers = require_ties(notions, world)
    return Crowd(notions, world[0], 1, cells_of(len(all_ties(notions, world[0])), numbers))


def is_world(field, thing):
    """Whether the thing is a world of the field."""
    require_field(field)
    return tie_numbers(field[0], thing) is not None


def _number_of_tuple(thing, things, places):
    """The number of a tuple of so many of the things, as Python sorts them, -1 of anything else."""
    if type(thing) is not tuple or len(thing) != places:
        return -1
    if not all([is_number_in(one, 0, things - 1) for one in thing]):
        return -1
    if places == 1:
        return thing[0]
    return thing[0] * things + thing[1]


def holds_of(field, world, term, things):
    """Whether the term, any of the field's notions, holds of the tuple of things in the world."""
    require_field(field)
    crowd = crowd_of(field[0], world)
    text, found = parts_within(field[0], term)
    if text == "":
        raise NoTerm("a term of the field's notions is due")
    number = _number_of_tuple(things, crowd.things, found[text][1])
    if number < 0:
        raise NoWay("a tuple of things of the world, one for each of the term's places, is due")
    return crowd.where(term)[number] == 1


def _orders_by_place(things):
    """For each place and each thing, which orders of the things, by their numbers, have it there."""
    where = [[0] * things for _ in range(things)]
    orders = list(permutations(range(things)))
    for number, order in enumerate(orders):
        for place, thing in enumerate(order):
            where[place][thing] |= 1 << number
    return where


def _renumbered(notions, world):
    """All orders of the world's things, a bit each, and for each tie that could be, by which orders it is there.

    An order gives each thing its place in it as its new number.
    """
    things, ties = world
    where = _orders_by_place(things)
    starts = {}
    start = 0
    for name, places in sorted(notions):
        starts[name] = start
        start += things if places == 1 else things * things
    cells = [0] * start
    for name, row in ties:
        for place, by_thing in enumerate(where):
            ahead = by_thing[row[0]]
            if len(row) == 1:
                cells[starts[name] + place] |= ahead
            else:
                first = starts[name] + place * things
                for other, by_other in enumerate(where):
                    cells[first + other] |= ahead & by_other[row[1]]
    return sum(where[0]), cells


def least_world(field, world):
    """The first of all worlds like this one, by ties as Python sorts."""
    require_field(field)
    require_ties(field[0], world)
    left, cells = _renumbered(field[0], world)
    ties = []
    for tie, cell in zip(all_ties(field[0], world[0]), cells):
        # Like worlds have as many ties, so the first of them is that with the earliest ties.
        if left & cell:
            left &= cell
            ties.append(tie)
    return (world[0], tuple(ties))


def are_like(field, world, thing):
    """Whether the thing is a world that the world becomes where its things get other numbers."""
    require_field(field)
    numbers = require_ties(field[0], world)
    wanted = tie_numbers(field[0], thing)
    if wanted is None or thing[0] != world[0] or len(wanted) != len(numbers):
        return False
    left, cells = _renumbered(field[0], world)
    for cell, is_there in zip(cells, cells_of(len(cells), wanted)):
        left &= cell if is_there else ~cell
        if not left:
            return False
    return True
