"""Zoos, where rules hold in situations, plain fields and their situations as worlds."""

import itertools
import unittest

from lorestead.errors import NoField, NoRule, NoSituation, NoTheory, NoWorld
from lorestead.fields.fields import atoms_of, is_field
from lorestead.fields.renamings import is_row, kinds_of, renamed_row, renamings
from lorestead.lists.zoo import breaks_in, is_plain, shows_zoo, world_of, zoo_of
from lorestead.rules.rules import is_rule
from lorestead.theories.closed import closed_of
from lorestead.theories.theories import Theory
from lorestead.worlds.ways import situations_of
from lorestead.worlds.worlds import is_world
from tests import plain, plain_lists
from tests.plain_lists import LARGE_ONES, PLAIN, SINGLE, SMALL_ONES, TEN, THREE, theories
from tests.things import (
    CHAIN, FIELD, MORE_FIELDS, NOTIONS, WIDE, any_things, check_anything, check_refusals, spoilt, told_of,
)

KIND, OTHER = ("kind", (0,)), ("kind", (1,))
CHAINED, BACK = (CHAIN, (0, 1)), (CHAIN, (1, 0))
ROUND, FAR = (CHAIN, (0, 0)), (CHAIN, (1, 1))
SHOWN = atoms_of(FIELD, shown=True)
RULE = ((KIND,), (OTHER,))
THEORY = Theory(FIELD, rules=(RULE,))
# All atoms but those of the kind, all but one of the chain, all but the other one.
ZOO = (
    (((ROUND, CHAINED, BACK, FAR)), (CHAINED, BACK, FAR, KIND, OTHER), (ROUND, CHAINED, FAR, KIND, OTHER)),
    (OTHER, ROUND, BACK),
)


def is_theory(thing):
    return isinstance(thing, Theory)


class TestZoo(unittest.TestCase):

    def test_some(self):
        situations, marks = zoo_of(THEORY)
        self.assertEqual(len(situations), 3)
        self.assertIs(shows_zoo(THEORY, (situations, marks)), True)
        self.assertIs(plain_lists.is_zoo(THEORY, situations, marks), True)
        self.assertEqual(zoo_of(THEORY), (situations, marks))
        self.assertEqual(zoo_of(Theory(FIELD, worlds=())), ((), ()))
        self.assertEqual(zoo_of(Theory(SINGLE)), (((),), (KIND,)))
        situations, marks = zoo_of(Theory(THREE))
        self.assertEqual((len(situations[0]), len(marks)), (2, 1))

    def test_right_ones(self):
        situations, marks = ZOO
        self.assertIs(shows_zoo(THEORY, ZOO), True)
        self.assertIs(shows_zoo(THEORY, (situations, (KIND, ROUND, BACK))), True)
        for order in itertools.permutations(range(3)):
            told = (tuple(situations[at] for at in order), tuple(marks[at] for at in order))
            self.assertIs(shows_zoo(THEORY, told), True)
        for number in range(3):
            turned = list(situations), list(marks)
            turned[0][number] = renamed_row(FIELD, situations[number], (1, 0))
            turned[1][number] = (marks[number][0], tuple(1 - unknown for unknown in marks[number][1]))
            self.assertIs(shows_zoo(THEORY, (tuple(turned[0]), tuple(turned[1]))), True)
        self.assertIs(shows_zoo(Theory(FIELD, worlds=()), ((), ())), True)

    def test_wrong_ones(self):
        situations, marks = ZOO
        self.assertIs(shows_zoo(THEORY, (situations[:2], marks[:2])), False)
        self.assertIs(shows_zoo(THEORY, (situations, marks[:2])), False)
        self.assertIs(shows_zoo(THEORY, (situations[:2], marks)), False)
        self.assertIs(shows_zoo(THEORY, ((), ())), False)
        # A closed one more: one with a mark twice, one alike, one without.
        self.assertIs(shows_zoo(THEORY, (situations + situations[:1], marks + marks[:1])), False)
        alike = (ROUND, BACK, FAR, KIND, OTHER)
        self.assertIs(shows_zoo(THEORY, (situations + (alike,), marks + (CHAINED,))), False)
        self.assertIs(shows_zoo(THEORY, (situations + ((CHAINED,),), marks + (KIND,))), False)
        self.assertIs(shows_zoo(THEORY, (situations + (SHOWN,), marks + (KIND,))), False)
        # Marks that are in it, that don't come with any atom, or are no shown atoms.
        for mark in (CHAINED, BACK, KIND, OTHER, ("likes", (0, 0)), None, 0, (), (KIND,), ("kind", (True,))):
            self.assertIs(shows_zoo(THEORY, (situations, (OTHER, mark, BACK))), False, mark)
        self.assertIs(shows_zoo(Theory(FIELD), ZOO), False)
        # One that isn't closed.
        self.assertIs(shows_zoo(THEORY, (((ROUND, CHAINED, BACK, FAR, KIND),) + situations[1:], marks)), False)

    def test_by_the_words(self):
        for field in SMALL_ONES + (WIDE,):
            for theory in theories(field)[::1 if field != WIDE else 4]:
                situations, marks = zoo_of(theory)
                self.assertIs(plain_lists.is_zoo(theory, situations, marks), True)
                self.assertIs(shows_zoo(theory, (situations, marks)), True)
                self.assertEqual(Theory(field, situations=situations), theory)
                for at in range(len(situations)):
                    less = (situations[:at] + situations[at + 1:], marks[:at] + marks[at + 1:])
                    self.assertIs(shows_zoo(theory, less), False)
                    for atom in atoms_of(field, shown=True):
                        told = (situations, marks[:at] + (atom,) + marks[at + 1:])
                        if field in SMALL_ONES[:4]:
                            self.assertIs(shows_zoo(theory, told), plain_lists.is_zoo(theory, *told))

    def test_other_closed_ones(self):
        for field in SMALL_ONES[:5]:
            for theory in theories(field, seed=1)[::2]:
                shown = atoms_of(field, shown=True)
                rows = closed_of(theory)
                for many in (1, 2):
                    tuples = list(itertools.combinations(rows, many))
                    for told in tuples[::len(tuples) // 12 + 1]:
                        for marks in itertools.product(shown[::2], repeat=many):
                            due = plain_lists.is_zoo(theory, told, marks)
                            self.assertIs(shows_zoo(theory, (told, marks)), due)

    def test_shown_rules_are_parted(self):
        for field in SMALL_ONES + LARGE_ONES:
            for theory in theories(field, seed=2):
                situations, _ = zoo_of(theory)
                for rule in plain.some_rules(field, 25, shown=True, seed=3):
                    self.assertIs(breaks_in(field, situations, rule) is None, theory.has(rule))

    def test_no_two_alike(self):
        for field in LARGE_ONES:
            for theory in theories(field, seed=4):
                situations, marks = zoo_of(theory)
                self.assertIs(shows_zoo(theory, (situations, marks)), True)
                self.assertEqual(len({kinds_of(field, row) for row in situations}), len(situations))
                self.assertEqual(Theory(field, situations=situations), theory)

    def test_anything(self):
        check_anything(self, shows_zoo, THEORY)
        wrong = 0
        for thing in spoilt(ZOO, (None, True, False, 0, "kind", (), [], (0,), (True,), {}, KIND, OTHER, ROUND)):
            told = told_of(shows_zoo, THEORY, thing)
            self.assertIn(told, (True, False), thing)
            # The mark of the first may be either of the kind.
            self.assertTrue(not told or repr(thing) in (repr(ZOO), repr((ZOO[0], (KIND,) + ZOO[1][1:]))), thing)
            wrong += not told
        self.assertGreater(wrong, 300)
        check_refusals(self, zoo_of, [(THEORY, NoTheory, is_theory)])
        check_refusals(self, lambda theory: shows_zoo(theory, None), [(THEORY, NoTheory, is_theory)])


class TestBreaks(unittest.TestCase):

    def test_the_first(self):
        rule = ((CHAINED,), (KIND,))
        self.assertIsNone(breaks_in(FIELD, (), rule))
        self.assertIsNone(breaks_in(FIELD, ((), (KIND,), (CHAINED, KIND), (BACK, OTHER), SHOWN), rule))
        self.assertEqual(breaks_in(FIELD, ((BACK,),), rule), (0, (1, 0)))
        self.assertEqual(breaks_in(FIELD, ((CHAINED,),), rule), (0, (0, 1)))
        self.assertEqual(breaks_in(FIELD, ((CHAINED, BACK),), rule), (0, (0, 1)))
        self.assertEqual(breaks_in(FIELD, ((), (BACK, KIND), (CHAINED,)), rule), (1, (1, 0)))
        self.assertEqual(breaks_in(FIELD, ((),), ((), (KIND,))), (0, (0, 1)))
        # Some of the thens, not all.
        self.assertEqual(breaks_in(FIELD, ((CHAINED, KIND),), ((CHAINED,), (KIND, OTHER))), (0, (0, 1)))
        self.assertIsNone(breaks_in(FIELD, ((CHAINED, KIND, OTHER),), ((CHAINED,), (KIND, OTHER))))

    def test_many(self):
        for field in SMALL_ONES + LARGE_ONES:
            rows = plain.all_situations(field)
            for at, rule in enumerate(plain.some_rules(field, 20, shown=True, seed=5)):
                told = tuple(rows[at::len(rows) // 9 + 1])
                broken = [(number, renaming) for number, row in enumerate(told) for renaming in renamings(field[2])
                          if set(plain.renamed(field, rule[0], renaming)) <= set(row)
                          and not set(plain.renamed(field, rule[1], renaming)) <= set(row)]
                self.assertEqual(breaks_in(field, told, rule), broken[0] if broken else None)
                for row in told:
                    self.assertIs(breaks_in(field, (row,), rule) is None, plain_lists.holds(field, row, rule))

    def test_refusals(self):
        check_refusals(self, breaks_in, [
            (FIELD, NoField, is_field), (((KIND,),), NoSituation, lambda thing: repr(thing) in ("()", "((), ())")),
            (((CHAINED,), (KIND,)), NoRule, lambda thing: is_rule(FIELD, thing, shown=True)),
        ])
        for wrong in (((OTHER, KIND),), [()], ((), None), ((("likes", (0, 0)),),), (KIND,), ((("kind", (True,)),),)):
            self.assertIs(told_of(breaks_in, FIELD, wrong, RULE), NoSituation)
            self.assertIs(told_of(breaks_in, FIELD, wrong, None), NoSituation)
        for wrong in (((("likes", (0, 0)),), (KIND,)), ((KIND,), ()), ((KIND,), (("likes", (0, 0)),)), RULE[0]):
            self.assertIs(told_of(breaks_in, FIELD, (), wrong), NoRule)


class TestPlain(unittest.TestCase):

    def test_is_plain(self):
        self.assertIs(is_plain(PLAIN), True)
        self.assertIs(is_plain((NOTIONS, ("likes", "kind"), 2)), True)
        self.assertIs(is_plain(WIDE), True)
        self.assertIs(is_plain(THREE), True)
        # Some of the names alone, more, other terms.
        self.assertIs(is_plain((NOTIONS, ("likes",), 2)), False)
        self.assertIs(is_plain((NOTIONS, ("kind",), 1)), False)
        self.assertIs(is_plain((NOTIONS, ("kind", "likes", ("not", "kind")), 2)), False)
        self.assertIs(is_plain((NOTIONS, ("kind", ("turned", "likes")), 2)), False)
        self.assertIs(is_plain(FIELD), False)
        self.assertEqual([is_plain(field) for field in MORE_FIELDS].count(True), 1)

    def test_is_plain_of_anything(self):
        for thing in any_things():
            self.assertIs(told_of(is_plain, thing), False, thing)
        self.assertIs(is_plain((NOTIONS, ("likes", "kind"), 3)), False)
        for thing in spoilt(PLAIN, (None, True, 0, 1, "kind", "likes", (), [], {}, (0,), ([],))):
            self.assertIs(told_of(is_plain, thing), is_field(thing) and len(thing[1]) == len(thing[0]), thing)

    def test_world_of(self):
        self.assertEqual(world_of(PLAIN, ()), (2, ()))
        row = (OTHER, ("likes", (0, 0)), ("likes", (1, 0)))
        self.assertEqual(world_of(PLAIN, row), (2, (("kind", (1,)), ("likes", (0, 0)), ("likes", (1, 0)))))
        for field in (PLAIN, WIDE, THREE, (NOTIONS, ("likes", "kind"), 1)):
            for row in plain.all_situations(field)[::5]:
                world = world_of(field, row)
                self.assertIs(is_world(field, world), True)
                self.assertEqual(world[0], field[2])
                self.assertEqual(situations_of(field, world), kinds_of(field, row))

    def test_the_theory_by_the_worlds_of_the_zoo(self):
        for field in (PLAIN, WIDE, THREE, (NOTIONS, ("likes", "kind"), 1)):
            for theory in theories(field, seed=6):
                worlds = tuple(world_of(field, row) for row in zoo_of(theory)[0])
                self.assertEqual(Theory(field, worlds=worlds), theory)

    def test_refusals(self):
        # Of what isn't plain ahead of no situation.
        for thing in (FIELD, (NOTIONS, ("likes",), 2), TEN):
            self.assertIs(told_of(world_of, thing, ()), NoWorld)
            self.assertIs(told_of(world_of, thing, None), NoWorld)
        check_refusals(self, world_of, [
            (PLAIN, NoField, is_field), ((), NoSituation, lambda thing: is_row(PLAIN, thing, shown=True)),
        ])
        for wrong in ((("likes", (0, 0)), KIND), (("likes", (0, 2)),), (KIND, KIND), [KIND], (("kind", (False,)),)):
            self.assertIs(told_of(world_of, PLAIN, wrong), NoSituation)


if __name__ == "__main__":
    unittest.main()
