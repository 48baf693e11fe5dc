"""What stands in a house: rules and worlds by their numbers. Nothing here is changed; each deed makes new ones."""

from lorestead.errors import Breaks, Broken, NoNumber
from lorestead.fields.listing import numbers_of
from lorestead.theories.theories import Theory
from lorestead.worlds.crowds import Crowd, all_ties, broken_in, cells_of, crowds_of, ways_in


class Numbered:
    """Things by their numbers, rising, and which number comes next."""

    def __init__(self, by_number, next_number):
        self.by_number = by_number
        self.next_number = next_number

    def with_next(self, thing):
        """These and the thing by the next number."""
        return Numbered({**self.by_number, self.next_number: thing}, self.next_number + 1)

    def without(self, number):
        """All of these but that of the number; NoNumber where there is none."""
        if type(number) is not int or number not in self.by_number:
            raise NoNumber(number)
        return Numbered({other: self.by_number[other] for other in self.by_number if other != number}, self.next_number)

    def in_row(self):
        """The things as they stand in order."""
        return tuple(self.by_number.values())


class Seen:
    """The worlds of a house of a field, and beside each by its number the numbers of its ties."""

    def __init__(self, home, numbered, ties):
        self.home = home
        self.numbered = numbered
        self.ties = ties
        # These are worked out when they are first asked for.
        self._crowds = None
        self._told = None

    def told(self):
        """The theory by these worlds."""
        if self._told is None:
            self._told = Theory(self.home, worlds=self.numbered.in_row())
        return self._told

    def crowds(self):
        """What crowds_of tells of the worlds, with their numbers as places."""
        if self._crowds is None:
            worlds = self.numbered.by_number
            known = [(number, worlds[number][0], self.ties[number]) for number in worlds]
            self._crowds = crowds_of(self.home[0], known)
        return self._crowds

    def require_unbroken(self, rule):
        """Raise Broken, with the number of the first world that breaks the rule, where there is one."""
        first = []
        for crowd, places in self.crowds():
            broken = broken_in(crowd, rule, ways_in(crowd.things, self.home[2]))
            if broken:
                first.append(places[numbers_of(broken)[0]])
        if first:
            raise Broken(min(first))

    def with_next(self, world, ties):
        """These and the world by the next number."""
        return Seen(self.home, self.numbered.with_next(world), {**self.ties, self.numbered.next_number: ties})

    def without(self, number):
        """All of these but that of the number; NoNumber where there is none."""
        return Seen(self.home, self.numbered.without(number), self.ties)


def require_unbreaking(field, world, ties, rules):
    """Raise Breaks, with the number of the first of the numbered rules that the world breaks, where there is one."""
    things = world[0]
    crowd = Crowd(field[0], things, 1, cells_of(len(all_ties(field[0], things)), ties))
    ways = ways_in(things, field[2])
    for number, rule in rules.by_number.items():
        if broken_in(crowd, rule, ways):
            raise Breaks(number)
