"""Ways of a field in a world, the atoms that hold by them, and their situations."""

import itertools
import unittest

from lorestead.errors import NoField, NoWay, NoWorld
from lorestead.fields.fields import atoms_of, is_field
from lorestead.fields.renamings import is_ahead, is_row
from lorestead.worlds.ways import atoms_by, is_way, situations_of, ways_of
from tests import plain
from tests.things import (
    BIG, CHAIN, FIELD, FLAT, LONE, MORE_FIELDS, NOTIONS, WIDE, any_things, check_anything, check_refusals, spoilt,
    told_of,
)

# Thing 0 likes 1 and 1 likes itself; 0 is of the kind.
WORLD = (2, (("kind", (0,)), ("likes", (0, 1)), ("likes", (1, 1))))


def is_world(thing):
    """No thing of any kind is a world, for none tells ties."""
    return False


class TestWays(unittest.TestCase):

    def test_rising(self):
        self.assertEqual(ways_of(FIELD, WORLD), ((0, 1), (1, 0)))
        self.assertEqual(ways_of(FIELD, (3, ())), ((0, 1), (0, 2), (1, 0), (1, 2), (2, 0), (2, 1)))
        self.assertEqual(ways_of(LONE, (3, ())), ((0,), (1,), (2,)))
        self.assertEqual(ways_of(WIDE, (3, ())), tuple(itertools.permutations(range(3))))

    def test_how_many(self):
        told = {1: (1, 2, 3, 4, 5), 2: (0, 2, 6, 12, 20), 3: (0, 0, 6, 24, 60)}
        for field in MORE_FIELDS:
            for things in range(1, 6):
                rows = ways_of(field, (things, ()))
                self.assertEqual(len(rows), told[field[2]][things - 1])
                self.assertEqual(list(rows), plain.ways(field, (things, ())))

    def test_none_where_things_are_fewer(self):
        self.assertEqual(ways_of(WIDE, (2, (("likes", (0, 1)),))), ())
        self.assertEqual(ways_of(FIELD, (1, ())), ())
        self.assertIs(is_way(FIELD, (1, ()), (0, 0)), False)

    def test_is_way(self):
        for field in MORE_FIELDS:
            for things in range(1, 6):
                rows = ways_of(field, (things, ()))
                for many in range(4):
                    for row in itertools.product(range(-1, things + 1), repeat=many):
                        self.assertIs(is_way(field, (things, ()), row), row in rows)

    def test_is_way_of_anything(self):
        check_anything(self, is_way, FIELD, WORLD)
        for thing in any_things():
            self.assertIs(told_of(is_way, FIELD, WORLD, thing), repr(thing) in ("(0, 1)", "(1, 0)"), thing)
        wrong = [(0, True), (False, 1), (0, 0), (0, BIG), (0, None), [0, 1], {0: 1}, "01", ((0,), (1,)), (0, 1, 2), (0,)]
        for thing in wrong:
            self.assertIs(told_of(is_way, FIELD, WORLD, thing), False, thing)
        for thing in spoilt((0, 2, 1), (None, True, False, 0, 1, 2, 3, BIG, "", (), [], {}, ([],))):
            right = repr(thing) in [repr(way) for way in ways_of(WIDE, (3, ()))]
            self.assertIs(told_of(is_way, WIDE, (3, ()), thing), right, thing)

    def test_refusals(self):
        check_refusals(self, ways_of, [(FIELD, NoField, is_field), (WORLD, NoWorld, is_world)])
        check_refusals(self, is_way, [(FIELD, NoField, is_field), (WORLD, NoWorld, is_world), ((0, 1), None, None)])


class TestAtoms(unittest.TestCase):

    def test_shown_and_all(self):
        told = ((CHAIN, (0, 1)), (CHAIN, (1, 1)), ("kind", (0,)))
        self.assertEqual(atoms_by(FIELD, WORLD, (0, 1)), told)
        self.assertEqual(atoms_by(FIELD, WORLD, (0, 1), shown=True), told)
        more = (("likes", (0, 1)), ("likes", (1, 1)))
        self.assertEqual(atoms_by(FIELD, WORLD, (0, 1), shown=False), told + more)
        turned = ((CHAIN, (0, 0)), (CHAIN, (1, 0)), ("kind", (1,)))
        self.assertEqual(atoms_by(FIELD, WORLD, (1, 0)), turned)

    def test_things_beside_the_ways_count(self):
        # 0 likes 2 and 2 likes 1, so 0 is in a chain to 1.
        world = (3, (("likes", (0, 2)), ("likes", (2, 1))))
        self.assertEqual(atoms_by(FIELD, world, (0, 1)), ((CHAIN, (0, 1)),))

    def test_many_worlds(self):
        for field in MORE_FIELDS:
            for world in plain.some_worlds(field, 12):
                for way in ways_of(field, world)[::7]:
                    for shown in (True, False):
                        told = atoms_by(field, world, way, shown=shown)
                        self.assertEqual(told, plain.situation(field, world, way, shown))
                        self.assertIs(is_row(field, told, shown=shown), True)

    def test_refusals(self):
        check_refusals(self, atoms_by, [
            (FIELD, NoField, is_field), (WORLD, NoWorld, is_world),
            ((0, 1), NoWay, lambda thing: repr(thing) in ("(0, 1)", "(1, 0)")),
        ])
        for thing in ((0, 0), (0, 2), (0, True), (0,), (0, 1, 1), [0, 1]):
            for shown in (True, False):
                self.assertIs(told_of(atoms_by, FIELD, WORLD, thing, shown=shown), NoWay, thing)
        self.assertIs(told_of(atoms_by, FIELD, (1, ()), (0, 0)), NoWay)


class TestSituations(unittest.TestCase):

    def test_each_once_as_rows_stand(self):
        one = ((CHAIN, (0, 0)), (CHAIN, (1, 0)), ("kind", (1,)))
        other = ((CHAIN, (0, 1)), (CHAIN, (1, 1)), ("kind", (0,)))
        self.assertEqual(situations_of(FIELD, WORLD), (one, other))
        self.assertEqual(situations_of(FIELD, (5, ())), ((),))
        full = (5, tuple(plain.all_ties(WIDE, 5)))
        self.assertEqual(situations_of(WIDE, full), (atoms_of(WIDE),))

    def test_none_where_things_are_fewer(self):
        self.assertEqual(situations_of(WIDE, (2, (("likes", (0, 1)),))), ())
        self.assertEqual(situations_of(FLAT, (1, ())), ())

    def test_many_worlds(self):
        for field in MORE_FIELDS:
            for world in plain.some_worlds(field, 12, seed=5):
                told = situations_of(field, world)
                rows = {plain.situation(field, world, way) for way in plain.ways(field, world)}
                self.assertEqual(list(told), sorted(rows, key=lambda row: plain.places(field, row)))
                for row, behind in zip(told, told[1:]):
                    self.assertIs(is_ahead(field, row, behind), True)

    def test_not_as_python_sorts_texts_alone(self):
        # A row that another begins with goes ahead of it.
        world = (3, (("kind", (0,)), ("kind", (1,))))
        field = (NOTIONS, ("kind",), 2)
        kinds = (("kind", (0,)), ("kind", (1,)))
        self.assertEqual(situations_of(field, world), (kinds[:1], kinds, kinds[1:]))

    def test_refusals(self):
        check_refusals(self, situations_of, [(FIELD, NoField, is_field), (WORLD, NoWorld, is_world)])


if __name__ == "__main__":
    unittest.main()
