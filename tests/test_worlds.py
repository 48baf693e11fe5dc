"""Worlds, what terms hold of in them, least worlds and worlds that are like."""

import itertools
import unittest

from lorestead.errors import NoField, NoTerm, NoWay, NoWorld
from lorestead.fields.fields import is_field
from lorestead.fields.terms import is_term, places_of
from lorestead.worlds.worlds import are_like, holds_of, is_world, least_world
from tests import plain
from tests.test_terms import rows_of_places
from tests.things import (
    BIG, BROAD, CHAIN, DEEP, FIELD, MORE_FIELDS, NOTIONS, WIDE, any_things, check_anything, check_refusals, spoilt,
    told_of,
)

# Thing 0 likes 1, 1 likes 2, 2 likes itself; 0 and 2 are of the kind.
WORLD = (3, (("kind", (0,)), ("kind", (2,)), ("likes", (0, 1)), ("likes", (1, 2)), ("likes", (2, 2))))


class TestWorlds(unittest.TestCase):

    def test_how_many_things(self):
        for things in (1, 2, 3, 4, 5):
            self.assertIs(is_world(FIELD, (things, ())), True)
            self.assertIs(is_world(FIELD, (things, tuple(plain.all_ties(FIELD, things)))), True)
        for things in (0, 6, -1, BIG, True, False, None, "3", (3,), [3], {}):
            self.assertIs(is_world(FIELD, (things, ())), False, things)
        self.assertIs(is_world(FIELD, (True, (("kind", (0,)),))), False)

    def test_right_ones(self):
        self.assertIs(is_world(FIELD, WORLD), True)
        for field in MORE_FIELDS:
            for world in plain.some_worlds(field, 40):
                self.assertIs(is_world(field, world), True)
                self.assertIs(is_world(field, world), True)

    def test_ties_rise_each_once(self):
        ties = WORLD[1]
        for row in itertools.permutations(ties, 3):
            self.assertIs(is_world(FIELD, (3, row)), list(row) == sorted(row))
        for at in range(len(ties)):
            self.assertIs(is_world(FIELD, (3, ties[:at + 1] + ties[at:])), False)
        self.assertIs(is_world(FIELD, (3, ties[::-1])), False)
        # By their names, whatever the order of the notions.
        self.assertIs(is_world(BROAD, (2, (("kind", (1,)), ("likes", (0, 1)), ("near", (0, 0))))), True)
        self.assertIs(is_world(BROAD, (2, (("near", (0, 0)), ("likes", (0, 1))))), False)

    def test_wrong_ties(self):
        wrong = [("other", (0,)), ("likes", (0,)), ("likes", (0, 1, 1)), ("kind", (0, 0)), ("kind", ()), ("likes", ())]
        wrong += [("likes", (0, 3)), ("likes", (-1, 0)), ("kind", (3,)), ("kind", (BIG,)), ("kind", (True,))]
        wrong += [("likes", (0, True)), ("likes", (False, 1)), ("kind", (None,)), ("kind", ("0",)), ("kind", 0), "kind"]
        wrong += [["kind", (0,)], ("kind", [0]), ("kind",), ("kind", (0,), (0,)), (), None, 0, {}, ({}, (0,)), ([], [])]
        wrong += [(CHAIN, (0, 1)), (("kind",), (0,)), ("chain likes likes", (0, 1)), ("kind", ((0,),)), ("not", (0,))]
        for tie in wrong:
            self.assertIs(told_of(is_world, FIELD, (3, (tie,))), False, tie)
            self.assertIs(told_of(is_world, FIELD, (3, (("kind", (0,)), tie))), False, tie)

    def test_tuples_alone(self):
        things, ties = WORLD
        for wrong in ([things, ties], (things, list(ties)), (things,), (things, ties, ()), (ties, things), (things, {})):
            self.assertIs(is_world(FIELD, wrong), False)
        self.assertIs(is_world(FIELD, (things, None)), False)

    def test_names_of_the_field_alone(self):
        self.assertIs(is_world(WIDE, (3, (("kind", (0,)),))), False)
        self.assertIs(is_world(WIDE, (3, (("likes", (0, 1)),))), True)
        self.assertIs(is_world(((("kind", 2),), ("kind",), 1), (3, (("kind", (0,)),))), False)

    def test_anything(self):
        check_anything(self, is_world, FIELD)
        for thing in any_things():
            self.assertIs(told_of(is_world, FIELD, thing), False, thing)

    def test_spoilt_ones(self):
        world = (2, (("kind", (0,)), ("likes", (0, 1))))
        ties = plain.all_ties(FIELD, 2)
        known = [repr((2, row)) for many in range(4) for row in itertools.combinations(ties, many)]
        known += [repr((3, row)) for many in range(4) for row in itertools.combinations(plain.all_ties(FIELD, 3), many)]
        known += [repr((1, ()))]
        for thing in spoilt(world, (None, True, False, 0, 1, 2, 3, BIG, "", "kind", (), [], {}, (0,), ([],), ({},))):
            self.assertIs(told_of(is_world, FIELD, thing), repr(thing) in known, thing)


class TestHolds(unittest.TestCase):

    def where(self, term):
        many = places_of(NOTIONS, term)
        rows = itertools.product(range(3), repeat=many)
        return [row for row in rows if holds_of(FIELD, WORLD, term, row)]

    def test_names(self):
        self.assertEqual(self.where("kind"), [(0,), (2,)])
        self.assertEqual(self.where("likes"), [(0, 1), (1, 2), (2, 2)])

    def test_each_word(self):
        self.assertEqual(self.where(("not", "kind")), [(1,)])
        self.assertEqual(self.where(("not", "likes")), [(0, 0), (0, 2), (1, 0), (1, 1), (2, 0), (2, 1)])
        self.assertEqual(self.where(("both", "kind", ("some", "likes"))), [(0,), (2,)])
        self.assertEqual(self.where(("both", "likes", ("turned", "likes"))), [(2, 2)])
        self.assertEqual(self.where(("either", "kind", ("not", "kind"))), [(0,), (1,), (2,)])
        self.assertEqual(self.where(("either", "likes", ("turned", "likes"))), [(0, 1), (1, 0), (1, 2), (2, 1), (2, 2)])
        self.assertEqual(self.where(("turned", "likes")), [(1, 0), (2, 1), (2, 2)])
        self.assertEqual(self.where(CHAIN), [(0, 2), (1, 2), (2, 2)])
        self.assertEqual(self.where(("some", "likes")), [(0,), (1,), (2,)])
        self.assertEqual(self.where(("some", ("turned", "likes"))), [(1,), (2,)])
        self.assertEqual(self.where(("chain", "likes", ("turned", "likes"))), [(0, 0), (1, 1), (1, 2), (2, 1), (2, 2)])

    def test_all_terms(self):
        # Most of these terms aren't the field's, but of its notions.
        for term in rows_of_places():
            many = places_of(NOTIONS, term)
            for world in (WORLD, (1, ()), (2, (("likes", (0, 1)),))):
                for row in itertools.product(range(world[0]), repeat=many):
                    self.assertIs(holds_of(FIELD, world, term, row), plain.holds(world, term, row))

    def test_many_worlds(self):
        deep = ("some", ("chain", ("not", "likes"), ("both", "likes", "likes")))
        wide = ("chain", ("either", "likes", ("not", "likes")), ("turned", ("not", "likes")))
        for world in plain.some_worlds(FIELD, 60):
            for row in itertools.product(range(world[0]), repeat=2):
                self.assertIs(holds_of(FIELD, world, wide, row), plain.holds(world, wide, row))
                self.assertIs(holds_of(FIELD, world, CHAIN, row), plain.holds(world, CHAIN, row))
                self.assertIs(holds_of(FIELD, world, deep, row[:1]), plain.holds(world, deep, row[:1]))

    def test_no_tuple_of_things(self):
        wrong = [(), (0,), (0, 1, 2), (0, 3), (-1, 0), (0, BIG), (0, True), (False, 0), (0, None), ("0", "1"), [0, 1]]
        wrong += [None, 0, "01", {0: 1}, ((0,), (1,)), ({}, [])]
        for thing in wrong:
            self.assertIs(told_of(holds_of, FIELD, WORLD, "likes", thing), NoWay, thing)
        for thing in ((), (0, 1), (3,), (True,), (None,), [0], 0, ({},)):
            self.assertIs(told_of(holds_of, FIELD, WORLD, "kind", thing), NoWay, thing)
        # Things may be alike, as unknowns may.
        self.assertIs(holds_of(FIELD, WORLD, "likes", (2, 2)), True)

    def test_refusals(self):
        check_refusals(self, holds_of, [
            (FIELD, NoField, is_field), (WORLD, NoWorld, lambda thing: False),
            ("likes", NoTerm, lambda thing: is_term(NOTIONS, thing)),
            ((0, 1), NoWay, lambda thing: repr(thing) in ("(0, 1)", "(1, 0)", "((0,), (1,))")),
        ])
        check_refusals(self, is_world, [(FIELD, NoField, is_field), (WORLD, None, None)])


class TestLikes(unittest.TestCase):

    def test_least(self):
        self.assertEqual(least_world(FIELD, (3, (("likes", (2, 1)),))), (3, (("likes", (0, 1)),)))
        self.assertEqual(least_world(FIELD, (3, (("likes", (2, 2)),))), (3, (("likes", (0, 0)),)))
        # Kinds go ahead of likes, so the thing of the kind gets the first number.
        world = (2, (("kind", (1,)), ("likes", (0, 0))))
        self.assertEqual(least_world(FIELD, world), (2, (("kind", (0,)), ("likes", (1, 1)))))
        self.assertEqual(least_world(FIELD, (5, ())), (5, ()))

    def test_many_least(self):
        for field in MORE_FIELDS:
            for world in plain.some_worlds(field, 25, most=4) + plain.some_worlds(field, 4, seed=1):
                alike = plain.likes(world)
                self.assertEqual(least_world(field, world), alike[0])
                self.assertEqual(least_world(field, alike[-1]), alike[0])

    def test_full_and_empty_worlds(self):
        for things in range(1, 6):
            full = (things, tuple(plain.all_ties(BROAD, things)))
            self.assertEqual(least_world(BROAD, full), full)
            self.assertIs(are_like(BROAD, full, full), True)
            self.assertIs(are_like(BROAD, full, (things, ())), False)
            self.assertIs(are_like(BROAD, full, (things, full[1][1:])), False)

    def test_like(self):
        for field in MORE_FIELDS:
            for world in plain.some_worlds(field, 12, most=4, seed=2):
                alike = plain.likes(world)
                for other in alike:
                    self.assertIs(are_like(field, world, other), True)
                for other in plain.some_worlds(field, 12, most=4, seed=3):
                    self.assertIs(are_like(field, world, other), other in alike)

    def test_one_tie_more_less_or_elsewhere(self):
        for world in plain.some_worlds(DEEP, 8, most=4, seed=4):
            ties = plain.all_ties(DEEP, world[0])
            alike = plain.likes(world)
            for tie in ties:
                other = (world[0], tuple(sorted(set(world[1]) ^ {tie})))
                self.assertIs(are_like(DEEP, world, other), False)
                for gone in world[1][:3]:
                    moved = (world[0], tuple(sorted((set(world[1]) - {gone}) | {tie})))
                    self.assertIs(are_like(DEEP, world, moved), moved in alike)

    def test_other_many_things(self):
        self.assertIs(are_like(FIELD, (3, (("kind", (0,)),)), (4, (("kind", (0,)),))), False)
        self.assertIs(are_like(FIELD, (3, ()), (4, ())), False)

    def test_how_ties_go_round_alone(self):
        def liked(*rows):
            return (4, tuple(sorted(("likes", row) for row in rows)))

        # As many ties from and to each thing: one round of four, two rounds of two, one of three beside one alone.
        four = liked((0, 1), (1, 2), (2, 3), (3, 0))
        twos = liked((0, 1), (1, 0), (2, 3), (3, 2))
        three = liked((0, 1), (1, 2), (2, 0), (3, 3))
        for one, other in itertools.product((four, twos, three), repeat=2):
            self.assertIs(are_like(FIELD, one, other), one == other)
            self.assertIs(are_like(WIDE, one, other), one == other)
        self.assertIs(are_like(FIELD, four, liked((0, 2), (2, 1), (1, 3), (3, 0))), True)
        self.assertIs(are_like(FIELD, twos, liked((0, 3), (3, 0), (1, 2), (2, 1))), True)

    def test_like_of_what_is_no_world(self):
        check_anything(self, are_like, FIELD, WORLD)
        world = (2, (("likes", (0, 1)),))
        for thing in ((2, (("likes", (True, 0)),)), (2, [("likes", (0, 1))]), (2, (("likes", [0, 1]),)), [2, world[1]]):
            self.assertIs(are_like(FIELD, world, thing), False)
        self.assertIs(are_like(FIELD, (1, ()), (True, ())), False)
        for thing in spoilt(world, (None, True, False, 0, 1, 2, 3, BIG, "", "kind", (), [], {}, (0,), ([],))):
            self.assertIs(told_of(are_like, FIELD, world, thing), repr(thing) in map(repr, plain.likes(world)), thing)

    def test_refusals(self):
        check_refusals(self, least_world, [(FIELD, NoField, is_field), (WORLD, NoWorld, lambda thing: False)])
        check_refusals(self, are_like, [
            (FIELD, NoField, is_field), (WORLD, NoWorld, lambda thing: False), (WORLD, None, None),
        ])


if __name__ == "__main__":
    unittest.main()
