"""Small worlds, how many there are, and the first that breaks a rule."""

import itertools
import unittest

from lorestead.errors import NoField, NoMost, NoRule, TooWide
from lorestead.fields.fields import is_field
from lorestead.rules.rules import break_of, holds_in
from lorestead.worlds import small
from lorestead.worlds.small import breaker_of, many_small, small_worlds
from lorestead.worlds.worlds import are_like, is_world, least_world
from tests import plain
from tests.things import BIG, BROAD, CHAIN, DEEP, FIELD, FLAT, LONE, MORE_FIELDS, WIDE, WORDY, check_refusals, told_of

KIND, OTHER, LIKES, BACK = ("kind", (0,)), ("kind", (1,)), ("likes", (0, 1)), ("likes", (1, 0))
RULE = ((KIND, LIKES), (OTHER,))
# Of two things just twelve ties could be, of three twenty-seven.
TWELVE = ((("a", 2), ("b", 2), ("c", 2)), ("a",), 2)
# Of three things just twelve ties could be.
NARROW = (FIELD, DEEP, WORDY, LONE)
WRONG_MOST = (0, 4, -1, BIG, -BIG, True, False, None, "2", (2,), [2], {}, {2: 2})


def never(thing):
    return False


def is_rules(thing):
    return repr(thing) == "()"


def is_most(thing):
    return repr(thing) in ("1", "2", "3")


class TestSmall(unittest.TestCase):

    def test_most_things(self):
        self.assertEqual(small.MOST_THINGS, 3)

    def test_one_thing(self):
        one, other = ("kind", (0,)), ("likes", (0, 0))
        self.assertEqual(small_worlds(FIELD, 1), ((1, ()), (1, (one,)), (1, (one, other)), (1, (other,))))
        self.assertEqual(many_small(FIELD, 1), 4)

    def test_against_plain_ones(self):
        for field in MORE_FIELDS:
            for things in (1, 2):
                told = small_worlds(field, things)
                self.assertEqual(list(told), plain.small_worlds(field, things))
                self.assertEqual(many_small(field, things), len(told))

    def test_three_things(self):
        for field, many in ((WIDE, 104), (FLAT, 20), (FIELD, 752), (WORDY, 752), (DEEP, 752)):
            told = small_worlds(field, 3)
            self.assertEqual(len(told), many)
            self.assertEqual(many_small(field, 3), many)
            self.assertEqual(list(told), sorted(told))
            self.assertEqual(len(set(told)), many)
            for world in told[::5]:
                self.assertIs(is_world(field, world), True)
                self.assertEqual(least_world(field, world), world)
        self.assertEqual(list(small_worlds(FIELD, 3)), plain.small_worlds(FIELD, 3))
        self.assertEqual(list(small_worlds(WIDE, 3)), plain.small_worlds(WIDE, 3))

    def test_just_twelve_ties(self):
        told = small_worlds(TWELVE, 2)
        self.assertEqual(list(told), plain.small_worlds(TWELVE, 2))
        self.assertEqual((told[0], told[-1]), ((2, ()), (2, (("c", (0, 1)), ("c", (1, 0))))))
        self.assertEqual(told[1], (2, (("a", (0, 0)),)))
        self.assertEqual(many_small(TWELVE, 2), 2 ** 11 + 2 ** 5)

    def test_each_kind_of_worlds_once(self):
        for world in plain.some_worlds(FIELD, 60, most=3):
            told = [other for other in small_worlds(FIELD, world[0]) if are_like(FIELD, world, other)]
            self.assertEqual(told, [least_world(FIELD, world)])

    def test_with_rules(self):
        for field in (FIELD, WORDY, WIDE, BROAD):
            for seed in range(6):
                rules = tuple(plain.some_rules(field, seed % 3 + 1, ifs=1, seed=seed))
                for things in (1, 2):
                    told = small_worlds(field, things, rules=rules)
                    self.assertEqual(list(told), plain.small_worlds(field, things, rules))
                    self.assertEqual(many_small(field, things, rules=rules), len(told))
        for field in NARROW:
            rules = tuple(plain.some_rules(field, 2, ifs=1, seed=7))
            told = [world for world in small_worlds(field, 3) if all(holds_in(field, world, rule) for rule in rules)]
            self.assertEqual(list(small_worlds(field, 3, rules=rules)), told)
            self.assertEqual(many_small(field, 3, rules=rules), len(told))

    def test_fewer_things_than_unknowns(self):
        rules = (((), (("likes", (0, 1)),)), ((), (("likes", (0, 0)),)))
        self.assertEqual(small_worlds(WIDE, 2, rules=rules), small_worlds(WIDE, 2))
        self.assertEqual(many_small(WIDE, 2, rules=rules), many_small(WIDE, 2))
        self.assertEqual(len(small_worlds(WIDE, 3, rules=rules)), 1)

    def test_many_rules(self):
        rules = (RULE, ((LIKES,), (BACK,))) * 150
        self.assertEqual(small_worlds(FIELD, 3, rules=rules), small_worlds(FIELD, 3, rules=rules[:2]))
        self.assertIs(told_of(small_worlds, FIELD, 3, rules=rules + rules[:1]), NoRule)
        self.assertIs(told_of(many_small, FIELD, 3, rules=rules + rules[:1]), NoRule)

    def test_too_wide(self):
        for call in (small_worlds, many_small):
            self.assertIs(told_of(call, TWELVE, 3), TooWide)
            self.assertIs(told_of(call, BROAD, 3), TooWide)
            self.assertIsNot(told_of(call, BROAD, 2), TooWide)
            wide = ((("a", 1), ("b", 2), ("c", 1)), ("a",), 1)
            self.assertIs(told_of(call, wide, 3), TooWide)
            self.assertIsNot(told_of(call, ((("a", 1), ("b", 1), ("c", 1)), ("a",), 1), 3), TooWide)
            # All other refusals go ahead.
            self.assertIs(told_of(call, TWELVE, 4), NoMost)
            self.assertIs(told_of(call, TWELVE, 3, rules=((),)), NoRule)
            self.assertIs(told_of(call, TWELVE, 3, rules=()), TooWide)

    def test_refusals(self):
        for call in (small_worlds, many_small):
            check_refusals(self, call, [
                (FIELD, NoField, is_field), (2, NoMost, is_most), ((RULE,), NoRule, is_rules),
            ], ("rules",))
            for thing in WRONG_MOST:
                self.assertIs(told_of(call, FIELD, thing), NoMost, thing)
            for thing in ([RULE], RULE, (RULE, None), (RULE, ((LIKES, KIND), (OTHER,))), {}, None):
                self.assertIs(told_of(call, FIELD, 2, rules=thing), NoRule, thing)


class TestBreaker(unittest.TestCase):

    def test_the_first(self):
        self.assertEqual(breaker_of(FIELD, RULE), (2, (("kind", (0,)), ("likes", (0, 0)), ("likes", (0, 1)))))
        # Fewer things go first, though more ties are needed.
        self.assertEqual(breaker_of(LONE, ((), (KIND,))), (1, ()))
        # Where all are of the kind, but one doesn't like back.
        told = (2, (("kind", (0,)), ("kind", (1,)), ("likes", (0, 0)), ("likes", (0, 1))))
        self.assertEqual(breaker_of(FIELD, ((KIND, LIKES), (BACK,)), rules=(RULE,)), told)

    def test_three_things_are_needed(self):
        rule = ((("likes", (0, 1)), ("likes", (1, 2))), (("likes", (0, 2)),))
        told = breaker_of(WIDE, rule)
        self.assertEqual(told[0], 3)
        self.assertIsNotNone(break_of(WIDE, told, rule))
        self.assertEqual(told, plain.breaker(WIDE, rule, (), 3))
        self.assertIsNone(breaker_of(WIDE, rule, most=2))

    def test_most(self):
        # Where nothing likes itself, a chain to another needs a third thing amid.
        rule = (((CHAIN, (0, 1)),), (LIKES,))
        rules = (((("likes", (0, 0)),), (LIKES, BACK)),)
        for most in (1, 2, 3):
            for beside in ((), rules):
                told = breaker_of(FIELD, rule, rules=beside, most=most)
                self.assertEqual(told, plain.breaker(FIELD, rule, beside, most))
        self.assertEqual(breaker_of(FIELD, rule, rules=rules)[0], 3)
        self.assertEqual(breaker_of(FIELD, rule, rules=rules), breaker_of(FIELD, rule, rules=rules, most=3))
        self.assertIsNone(breaker_of(FIELD, rule, rules=rules, most=2))

    def test_none(self):
        self.assertIsNone(breaker_of(FIELD, ((KIND,), (KIND,))))
        self.assertIsNone(breaker_of(FIELD, RULE, rules=(RULE,)))
        self.assertIsNone(breaker_of(FIELD, ((OTHER, BACK), (KIND,)), rules=(RULE,)))
        self.assertIsNone(breaker_of(FIELD, RULE, rules=(((), (KIND,)),)))

    def test_many(self):
        for field in (FIELD, WORDY, BROAD, WIDE, LONE, TWELVE):
            most = 2 if field in (BROAD, TWELVE) else 3
            found = 0
            for at, rule in enumerate(plain.some_rules(field, 14, seed=8)):
                rules = tuple(plain.some_rules(field, at % 3, seed=at))
                told = breaker_of(field, rule, rules=rules, most=most)
                found += told is not None
                due = None
                for things in range(1, most + 1):
                    for world in small_worlds(field, things, rules=rules):
                        if due is None and break_of(field, world, rule) is not None:
                            due = world
                self.assertEqual(told, due)
            self.assertGreater(found, 4)

    def test_too_wide(self):
        rule = ((("a", (0, 1)),), (("a", (1, 0)),))
        self.assertIs(told_of(breaker_of, TWELVE, rule), TooWide)
        self.assertIs(told_of(breaker_of, TWELVE, rule, most=3), TooWide)
        self.assertEqual(breaker_of(TWELVE, rule, most=2), (2, (("a", (0, 0)), ("a", (0, 1)))))
        # Even where fewer things would do.
        self.assertIs(told_of(breaker_of, ((("a", 2), ("b", 2)), ("a",), 1), ((), (("a", (0, 0)),))), TooWide)
        self.assertIs(told_of(breaker_of, TWELVE, (), most=3), NoRule)
        self.assertIs(told_of(breaker_of, TWELVE, rule, rules=None, most=3), NoRule)
        self.assertIs(told_of(breaker_of, TWELVE, rule, most=4), NoMost)

    def test_refusals(self):
        check_refusals(self, breaker_of, [
            (FIELD, NoField, is_field), (RULE, NoRule, never), ((RULE,), NoRule, is_rules), (2, NoMost, is_most),
        ], ("rules", "most"))
        for thing in WRONG_MOST:
            self.assertIs(told_of(breaker_of, FIELD, RULE, most=thing), NoMost, thing)
        self.assertIs(told_of(breaker_of, FIELD, RULE, rules=(RULE,) * 301), NoRule)
        self.assertIsNone(breaker_of(FIELD, RULE, rules=(RULE,) * 300))


class TestTogether(unittest.TestCase):

    def test_a_breaker_breaks_and_none_means_all_hold(self):
        for rule, beside in itertools.product(plain.some_rules(FIELD, 8, seed=9), plain.some_rules(FIELD, 4, seed=10)):
            told = breaker_of(FIELD, rule, rules=(beside,))
            every = [world for things in (1, 2, 3) for world in small_worlds(FIELD, things, rules=(beside,))]
            if told is None:
                self.assertTrue(all(holds_in(FIELD, world, rule) for world in every))
            else:
                self.assertIn(told, every)
                self.assertIs(holds_in(FIELD, told, rule), False)
                self.assertIs(holds_in(FIELD, told, beside), True)


if __name__ == "__main__":
    unittest.main()
