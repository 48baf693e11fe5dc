"""Verdicts: walked, broken, standing; what shows them."""

import unittest

from lorestead.errors import NoField, NoMost, NoRule, TooWide
from lorestead.fields.fields import is_field
from lorestead.rules.rules import break_of, holds_in
from lorestead.theories import verdicts
from lorestead.theories.giving import given_of
from lorestead.theories.verdicts import shows_verdict, verdict_on
from lorestead.theories.walks import shows_walk
from lorestead.worlds.small import breaker_of, small_worlds
from tests import plain
from tests.things import (
    BIG, CHAIN, FIELD, LONE, NOTIONS, WIDE, WORDY, any_things, check_anything, check_refusals, spoilt, told_of,
)

KIND, OTHER, LIKES, BACK = ("kind", (0,)), ("kind", (1,)), ("likes", (0, 1)), ("likes", (1, 0))
SELF = ("likes", (0, 0))
RULE = ((KIND, LIKES), (OTHER,))
WALKED = ((OTHER, BACK), (KIND,))
WALK = ("walked", (("rule", 0, (1, 0), KIND),))
WORLD = (2, (("kind", (0,)), ("likes", (0, 0)), ("likes", (0, 1))))
BROKEN = ("broken", WORLD, (0, 1))
# Of one thing no rule of two unknowns is broken.
STANDS = ("stands", (KIND, LIKES))
# Of two things just twelve ties could be.
TWELVE = ((("a", 2), ("b", 2), ("c", 2)), ("a",), 2)
TIE, OPEN = ("a", (0, 1)), ((("a", (0, 1)),), (("a", (1, 0)),))
SPOILERS = (None, True, False, 0, 1, 2, 3, BIG, "", "kind", (), [], {}, (0,), ([],), ({},), (1, 0), (True, False), KIND)


def never(thing):
    return False


def is_rules(thing):
    return thing == ()


def is_most(thing):
    return repr(thing) in ("1", "2", "3")


class TestVerdicts(unittest.TestCase):

    def test_most_things(self):
        self.assertEqual(verdicts.MOST_THINGS, 3)

    def test_walked(self):
        self.assertEqual(verdict_on(FIELD, WALKED, rules=(RULE,)), WALK)
        self.assertEqual(verdict_on(FIELD, ((KIND,), (KIND,))), ("walked", ()))

    def test_broken_by_the_first_world_and_its_first_way(self):
        self.assertEqual(verdict_on(FIELD, RULE), BROKEN)
        self.assertEqual(verdict_on(FIELD, WALKED), ("broken", WORLD, (1, 0)))
        self.assertEqual(verdict_on(LONE, ((), (KIND,))), ("broken", (1, ()), (0,)))

    def test_standing(self):
        self.assertEqual(verdict_on(FIELD, RULE, most=1), STANDS)
        # True in every world, though no term row tells it.
        either = ("either", "kind", ("not", "kind"))
        told = verdict_on((NOTIONS, (either,), 2), ((LIKES,), ((either, (1,)),)))
        self.assertEqual(told, ("stands", (LIKES,)))
        # The atoms are all that the rules give of the ifs.
        rules = (((), (KIND,)),)
        self.assertEqual(verdict_on(FIELD, ((LIKES,), (BACK,)), rules=rules)[0], "broken")
        self.assertEqual(verdict_on(FIELD, ((LIKES,), (BACK,)), rules=rules, most=1), ("stands", (KIND, OTHER, LIKES)))

    def test_most(self):
        chain = (("likes", (0, 1)), ("likes", (1, 2)))
        rule = (chain, (("likes", (0, 2)),))
        self.assertEqual(verdict_on(WIDE, rule, most=1), ("stands", chain))
        self.assertEqual(verdict_on(WIDE, rule, most=2), ("stands", chain))
        self.assertEqual(verdict_on(WIDE, rule, most=3)[0], "broken")
        self.assertEqual(verdict_on(WIDE, rule), verdict_on(WIDE, rule, most=3))

    def test_many(self):
        words = {"walked": 0, "broken": 0, "stands": 0}
        for field in (FIELD, WIDE, WORDY, LONE):
            for at, rule in enumerate(plain.some_rules(field, 24, seed=11)):
                rules = tuple(plain.some_rules(field, at % 4, ifs=2, seed=(11, at)))
                most = at % 3 + 1
                told = verdict_on(field, rule, rules=rules, most=most)
                words[told[0]] += 1
                if told[0] == "walked":
                    self.assertIs(shows_walk(field, rules, rule, told), True)
                else:
                    self.assertEqual(told, plain_verdict(field, rule, rules, most))
                    self.assertIs(shows_walk(field, rules, rule, ("open", given_of(field, rule[0], rules=rules))), True)
                self.assertIs(shows_verdict(field, rule, told, rules=rules, most=most), True)
                self.look(field, rule, rules, most, told[0])
        self.assertGreater(min(words.values()), 8)

    def look(self, field, rule, rules, most, word):
        """Look that what is told agrees with the worlds of at most so many things in which the rules hold."""
        every = [world for things in range(1, most + 1) for world in small_worlds(field, things, rules=rules)]
        self.assertIs(all(holds_in(field, world, rule) for world in every), word != "broken")

    def test_too_wide_just_where_open(self):
        self.assertIs(told_of(verdict_on, TWELVE, OPEN), TooWide)
        self.assertIs(told_of(verdict_on, TWELVE, OPEN, most=3), TooWide)
        self.assertEqual(verdict_on(TWELVE, OPEN, most=2)[0], "broken")
        self.assertEqual(verdict_on(TWELVE, OPEN, rules=(OPEN,))[0], "walked")
        self.assertEqual(verdict_on(TWELVE, ((TIE,), (TIE,))), ("walked", ()))

    def test_refusals(self):
        check_refusals(self, verdict_on, [
            (FIELD, NoField, is_field), (RULE, NoRule, never), ((RULE,), NoRule, is_rules), (2, NoMost, is_most),
        ], ("rules", "most"))
        # TooWide goes last of all.
        self.assertIs(told_of(verdict_on, TWELVE, OPEN, most=4), NoMost)
        self.assertIs(told_of(verdict_on, TWELVE, OPEN, rules=(None,)), NoRule)
        self.assertIs(told_of(verdict_on, TWELVE, OPEN, rules=(OPEN,) * 301), NoRule)
        for thing in (0, 4, True, None, "1", BIG, (1,)):
            self.assertIs(told_of(verdict_on, FIELD, WALKED, rules=(RULE,), most=thing), NoMost)


def plain_verdict(field, rule, rules, most):
    """The verdict on a rule that isn't walked."""
    for things in range(1, most + 1):
        for world in small_worlds(field, things, rules=rules):
            way = plain.break_of(field, world, rule)
            if way is not None:
                return ("broken", world, way)
    return ("stands", plain.given_of(field, rule[0], rules)[0])


class TestShowsVerdict(unittest.TestCase):

    def test_walked(self):
        self.assertIs(shows_verdict(FIELD, WALKED, WALK, rules=(RULE,)), True)
        for wrong in (("walked", ()), ("walked", list(WALK[1])), WALK + ((),), ("open", WALK[1]), list(WALK), WALK[1]):
            self.assertIs(told_of(shows_verdict, FIELD, WALKED, wrong, rules=(RULE,)), False)
        # More steps than are needed are a walk as well.
        more = ("walked", WALK[1] * 2)
        self.assertIs(shows_verdict(FIELD, WALKED, more, rules=(RULE,)), True)
        # Of a walked rule nothing else is shown.
        for wrong in (BROKEN, STANDS, ("stands", (KIND, OTHER, BACK)), ("broken", WORLD, None)):
            self.assertIs(shows_verdict(FIELD, WALKED, wrong, rules=(RULE,)), False)

    def test_broken(self):
        self.assertIs(shows_verdict(FIELD, RULE, BROKEN), True)
        wrong = [("broken", WORLD, (1, 0)), ("broken", WORLD), ("broken", (0, 1), WORLD), STANDS, ("walked", ())]
        wrong += [("broken", WORLD, [0, 1]), ("broken", WORLD, (False, True)), ("broken", list(WORLD), (0, 1))]
        wrong += [("broken", (2, list(WORLD[1])), (0, 1)), ("broken", WORLD, None), ("broken", None, None)]
        wrong += [("broken", (2, (("kind", (False,)),) + WORLD[1][1:]), (0, 1)), list(BROKEN), BROKEN + ((),)]
        # A world that breaks it, but isn't the first.
        other = breaker_of(FIELD, RULE, rules=(((SELF,), (LIKES, BACK)), (((CHAIN, (0, 1)),), (SELF,))))
        wrong += [("broken", other, break_of(FIELD, other, RULE))]
        wrong += [("broken", (3, ()), (0, 1)), ("broken", (2, ()), (0, 1))]
        self.assertIsNotNone(wrong[-3][2])
        for thing in wrong:
            self.assertIs(told_of(shows_verdict, FIELD, RULE, thing), False, thing)
            self.assertIs(told_of(shows_verdict, FIELD, RULE, thing, most=2), False, thing)

    def test_standing(self):
        self.assertIs(shows_verdict(FIELD, RULE, STANDS, most=1), True)
        # Any row by which it is open.
        more = ("stands", given_of(FIELD, (KIND, SELF, LIKES)))
        self.assertIs(shows_verdict(FIELD, RULE, more, most=1), True)
        self.assertIs(shows_verdict(FIELD, RULE, STANDS, most=2), False)
        wrong = [("stands", (KIND,)), ("stands", (KIND, OTHER, LIKES)), ("stands", (KIND, SELF, LIKES)), ("stands", ())]
        wrong += [("stands", (LIKES, KIND)), ("stands", [KIND, LIKES]), ("open", STANDS[1]), STANDS + ((),), BROKEN]
        wrong += [("stands", (("kind", (False,)), LIKES)), list(STANDS), ("stands",), ("walked", ()), ("stands", None)]
        for thing in wrong:
            self.assertIs(told_of(shows_verdict, FIELD, RULE, thing, most=1), False, thing)

    def test_anything(self):
        for rule, rules, most in ((RULE, (), 3), (RULE, (), 1), (WALKED, (RULE,), 3)):
            check_anything(self, shows_verdict, FIELD, rule, rules=rules, most=most)
            for thing in any_things():
                self.assertIs(told_of(shows_verdict, FIELD, rule, thing, rules=rules, most=most), False, thing)
                for word in ("walked", "broken", "stands"):
                    told = told_of(shows_verdict, FIELD, rule, (word, thing), rules=rules, most=most)
                    self.assertIs(told, word == "walked" and rule == ((), (KIND,)), thing)
                    told = told_of(shows_verdict, FIELD, rule, (word, thing, thing), rules=rules, most=most)
                    self.assertIs(told, False, thing)

    def test_spoilt_ones(self):
        for rule, rules, most, told in ((RULE, (), 3, BROKEN), (RULE, (), 1, STANDS), (WALKED, (RULE,), 3, WALK)):
            for thing in spoilt(told, SPOILERS):
                shown = told_of(shows_verdict, FIELD, rule, thing, rules=rules, most=most)
                self.assertIn(shown, (True, False), thing)
                if shown and told[0] == "broken":
                    self.assertEqual(repr(thing), repr(told))
                if shown and told[0] != "broken":
                    # A step twice.
                    self.assertIn(repr(thing), (repr(told), repr((told[0], told[1] * 2))))

    def test_refusals(self):
        check_refusals(self, shows_verdict, [
            (FIELD, NoField, is_field), (RULE, NoRule, never), (BROKEN, None, None), ((RULE,), NoRule, is_rules),
            (2, NoMost, is_most),
        ], ("rules", "most"))

    def test_too_wide(self):
        for thing in (None, ("walked", ()), ("stands", (TIE,)), ("broken", (2, ()), (0, 1))):
            self.assertIs(told_of(shows_verdict, TWELVE, OPEN, thing), TooWide)
            self.assertIs(told_of(shows_verdict, TWELVE, OPEN, thing, most=2), False)
            self.assertIs(told_of(shows_verdict, TWELVE, OPEN, thing, most=0), NoMost)
            self.assertIs(told_of(shows_verdict, TWELVE, OPEN, thing, rules=((),)), NoRule)
        walk = ("walked", (("rule", 0, (0, 1), ("a", (1, 0))),))
        self.assertIs(shows_verdict(TWELVE, OPEN, walk, rules=(OPEN,)), True)
        self.assertIs(shows_verdict(TWELVE, OPEN, None, rules=(OPEN,)), False)


if __name__ == "__main__":
    unittest.main()
