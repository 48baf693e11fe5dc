"""Lists that keep, spare numbers, stakes, lists of fewest rows."""

import itertools
import unittest

from lorestead.errors import NoGround, NoRule, NoTheory
from lorestead.fields.fields import atoms_of
from lorestead.fields.renamings import kinds_of
from lorestead.lists.fewest import are_stakes, fewest_of, keeps, shows_fewest, spare_of
from lorestead.rules.rules import least_rule, renamed_rule
from lorestead.theories.theories import Theory
from tests import plain, plain_lists
from tests.plain_lists import KNIT, LARGE_ONES, SINGLE, SMALL_ONES, TEN, grounds, theories
from tests.things import CHAIN, DEEP, FIELD, WIDE, any_things, check_anything, check_refusals, spoilt, told_of

KIND, OTHER = ("kind", (0,)), ("kind", (1,))
CHAINED, BACK = (CHAIN, (0, 1)), (CHAIN, (1, 0))
LIKES = ("likes", (0, 1))
SHOWN = atoms_of(FIELD, shown=True)
RULE = ((KIND,), (OTHER,))
FIRST = ((CHAINED,), (KIND,))
SECOND = ((CHAINED, BACK), ((CHAIN, (0, 0)),))
THEORY = Theory(FIELD, rules=(FIRST, SECOND))
# A hidden rule by which the first one comes.
HIDDEN = (((CHAIN, (0, 1)),), (LIKES,))
FURTHER = ((LIKES,), (KIND,))
DEEPER = Theory(FIELD, rules=(HIDDEN, FURTHER))


def is_theory(thing):
    return isinstance(thing, Theory)


def is_none(thing):
    return thing == ()


class TestKeeps(unittest.TestCase):

    def test_some(self):
        self.assertIs(keeps(THEORY, (FIRST, SECOND)), True)
        self.assertIs(keeps(THEORY, (FIRST,)), False)
        self.assertIs(keeps(THEORY, (SECOND,)), False)
        self.assertIs(keeps(THEORY, ()), False)
        self.assertIs(keeps(THEORY, (SECOND, FIRST, SECOND)), True)
        self.assertIs(keeps(THEORY, (renamed_rule(FIELD, SECOND, (1, 0)), renamed_rule(FIELD, FIRST, (1, 0)))), True)
        self.assertIs(keeps(Theory(FIELD), ()), True)
        self.assertIs(keeps(Theory(FIELD, worlds=()), (((), SHOWN),)), True)

    def test_over_a_ground(self):
        self.assertIs(keeps(THEORY, (SECOND,), ground=(FIRST,)), True)
        self.assertIs(keeps(THEORY, (), ground=(FIRST, SECOND)), True)
        self.assertIs(keeps(THEORY, (), ground=(SECOND,)), False)
        # By what isn't shown, too.
        self.assertIs(keeps(DEEPER, (), ground=(HIDDEN, FURTHER)), True)
        self.assertIs(keeps(DEEPER, (), ground=(FURTHER,)), False)
        self.assertIs(keeps(DEEPER, (FIRST, SECOND), ground=(FURTHER,)), True)
        self.assertIs(keeps(DEEPER, (FIRST, SECOND)), True)
        self.assertIs(keeps(DEEPER, (FIRST,)), False)
        self.assertIs(keeps(DEEPER, (FIRST,), ground=(HIDDEN,)), True)

    def test_rules_that_are_none(self):
        for wrong in (RULE, (RULE,), (FIRST, RULE), [FIRST], ((KIND,),), (FIRST, None), (HIDDEN,), (FURTHER,)):
            self.assertIs(told_of(keeps, THEORY, wrong), NoRule)
            self.assertIs(told_of(spare_of, THEORY, wrong), NoRule)
            self.assertIs(told_of(keeps, DEEPER, wrong), NoRule)
        self.assertIs(told_of(keeps, THEORY, (FIRST, SECOND) * 150), True)
        self.assertIs(told_of(keeps, THEORY, (FIRST, SECOND) * 150 + (FIRST,)), NoRule)

    def test_no_ground(self):
        for call in (keeps, spare_of):
            for ground, number in (((RULE,), 0), ((FIRST, RULE), 1), ((SECOND, FIRST, RULE, RULE), 2)):
                with self.assertRaises(NoGround) as caught:
                    call(THEORY, (FIRST, SECOND), ground=ground)
                self.assertEqual(caught.exception.number, number)
        for call in (fewest_of, lambda theory, ground: are_stakes(theory, (), ground=ground),
                     lambda theory, ground: shows_fewest(theory, (), ground=ground)):
            with self.assertRaises(NoGround) as caught:
                call(THEORY, ground=(FIRST, RULE))
            self.assertEqual(caught.exception.number, 1)
            self.assertIs(told_of(call, THEORY, ground=(RULE, None)), NoRule)
            self.assertIs(told_of(call, THEORY, ground=(RULE,) * 301), NoRule)
        # By worlds.
        world = (2, (("kind", (0,)), ("likes", (0, 1)), ("likes", (1, 1))))
        theory = Theory(FIELD, worlds=(world,))
        self.assertIs(keeps(theory, (), ground=(((LIKES,), (KIND,)),)), False)
        self.assertIs(told_of(keeps, theory, (), ground=(FIRST, HIDDEN, ((KIND,), (CHAINED,)), RULE)), NoGround)

    def test_a_ground_by_situations_is_shown(self):
        theory = Theory(FIELD, situations=((CHAINED, KIND), (OTHER,)))
        self.assertIs(keeps(theory, (), ground=(FIRST,)), False)
        with self.assertRaises(NoGround) as caught:
            keeps(theory, (), ground=(FIRST, (FIRST[0], (LIKES,)), RULE))
        self.assertEqual(caught.exception.number, 1)
        with self.assertRaises(NoGround) as caught:
            fewest_of(theory, ground=(((LIKES,), (LIKES,)), RULE))
        self.assertEqual(caught.exception.number, 0)
        # The same rule of a theory by rules or by worlds is had.
        self.assertIs(keeps(Theory(FIELD), (), ground=(((LIKES,), (LIKES,)),)), True)
        self.assertIs(told_of(keeps, Theory(FIELD, worlds=()), (), ground=(((LIKES,), (LIKES,)),)), False)

    def test_no_rule_goes_ahead_of_no_ground(self):
        self.assertIs(told_of(keeps, THEORY, (RULE,), ground=(RULE,)), NoRule)
        self.assertIs(told_of(keeps, THEORY, (FIRST,), ground=(RULE, None)), NoRule)
        self.assertIs(told_of(keeps, THEORY, (FIRST,), ground=(RULE, ((OTHER, KIND), (KIND,)))), NoRule)
        self.assertIs(told_of(spare_of, THEORY, (RULE,), ground=(RULE,)), NoRule)
        self.assertIs(told_of(keeps, None, (RULE,), ground=(RULE,)), NoTheory)

    def test_many_together(self):
        rules = tuple(plain.some_rules(DEEP, 300, ifs=2, seed=1))
        theory = Theory(DEEP, rules=rules)
        listed, stakes = fewest_of(theory, ground=())
        self.assertIs(keeps(theory, listed * (300 // len(listed)), ground=rules), True)
        self.assertEqual(spare_of(theory, listed * 2, ground=rules), tuple(range(2 * len(listed))))
        self.assertEqual(fewest_of(theory, ground=rules), ((), ()))
        self.assertIs(are_stakes(theory, stakes), True)

    def test_many(self):
        for field in SMALL_ONES:
            for number, theory in enumerate(theories(field)):
                every = plain_lists.all_primes(theory)
                lists = [(), tuple(every[:1]), tuple(every[:3]), tuple(every[1::2]), tuple(every[:30])]
                for ground in grounds(theory, number)[1:3]:
                    for rules in lists:
                        due = plain_lists.keeps(theory, rules, ground)
                        self.assertIs(keeps(theory, rules, ground=ground), due)

    def test_refusals(self):
        for call in (keeps, spare_of):
            check_refusals(self, call, [
                (Theory(FIELD), NoTheory, is_theory), ((), NoRule, is_none), ((), NoRule, is_none),
            ], ("ground",))


class TestSpare(unittest.TestCase):

    def test_some(self):
        self.assertEqual(spare_of(THEORY, (FIRST, SECOND)), ())
        self.assertEqual(spare_of(THEORY, (FIRST, SECOND, FIRST)), (0, 2))
        self.assertEqual(spare_of(THEORY, (FIRST, SECOND, renamed_rule(FIELD, SECOND, (1, 0)))), (1, 2))
        self.assertEqual(spare_of(THEORY, (FIRST, SECOND), ground=(FIRST,)), (0,))
        self.assertEqual(spare_of(THEORY, (FIRST, SECOND), ground=(FIRST, SECOND)), (0, 1))
        self.assertEqual(spare_of(THEORY, (), ground=(FIRST, SECOND)), ())
        self.assertEqual(spare_of(DEEPER, (FIRST,), ground=(HIDDEN, FURTHER)), (0,))
        self.assertEqual(spare_of(DEEPER, (SECOND, FIRST), ground=(HIDDEN,)), (0,))

    def test_what_does_not_keep(self):
        for rules in ((), (FIRST,), (SECOND,), (SECOND, SECOND)):
            self.assertIs(told_of(spare_of, THEORY, rules), NoRule)
        self.assertIs(told_of(spare_of, THEORY, (FIRST,), ground=(FIRST,)), NoRule)
        self.assertEqual(spare_of(THEORY, (FIRST,), ground=(SECOND,)), ())
        self.assertIs(told_of(spare_of, THEORY, (), ground=(RULE,)), NoGround)

    def test_many(self):
        for field in SMALL_ONES:
            for number, theory in enumerate(theories(field, seed=1)):
                rules = tuple(plain_lists.found(theory)[:12]) + fewest_of(theory)[0]
                for ground in grounds(theory, number)[:2]:
                    due = [at for at in range(len(rules))
                           if plain_lists.keeps(theory, rules[:at] + rules[at + 1:], ground)]
                    self.assertEqual(spare_of(theory, rules, ground=ground), tuple(due))


class TestStakes(unittest.TestCase):

    def test_some(self):
        self.assertIs(are_stakes(THEORY, ()), True)
        self.assertIs(are_stakes(THEORY, ((CHAINED,),)), True)
        self.assertIs(are_stakes(THEORY, ((CHAINED,), (CHAINED, BACK, KIND, OTHER))), True)
        self.assertIs(are_stakes(THEORY, ((CHAINED, BACK, KIND, OTHER), (BACK,))), True)
        # One closed in the theory.
        self.assertIs(are_stakes(THEORY, ((CHAINED, KIND),)), False)
        self.assertIs(are_stakes(THEORY, ((CHAINED,), SHOWN)), False)
        # Two that one row could break: the closure of what both have lies in neither.
        self.assertIs(are_stakes(THEORY, ((CHAINED,), (CHAINED, OTHER))), False)
        self.assertIs(are_stakes(THEORY, ((CHAINED,), (CHAINED, BACK))), False)
        # The same one, and one renamed.
        self.assertIs(are_stakes(THEORY, ((CHAINED,), (CHAINED,))), False)
        self.assertIs(are_stakes(THEORY, ((CHAINED,), (BACK,))), False)
        self.assertIs(are_stakes(THEORY, ((CHAINED,), (BACK, KIND))), False)

    def test_over_a_ground(self):
        self.assertIs(are_stakes(THEORY, ((CHAINED,),), ground=(FIRST,)), False)
        self.assertIs(are_stakes(THEORY, ((CHAINED, BACK, KIND, OTHER),), ground=(FIRST,)), True)
        self.assertIs(are_stakes(THEORY, ((CHAINED, BACK, KIND, OTHER),), ground=(FIRST, SECOND)), False)
        # One that isn't closed by term rows alone.
        theory = Theory(KNIT, rules=(((LIKES,), (("likes", (0, 0)),)),))
        turned = (("turned", "likes"), (1, 0))
        self.assertIs(are_stakes(theory, ((LIKES,),)), False)
        self.assertIs(are_stakes(theory, ((LIKES, turned),)), True)

    def test_many(self):
        for field in SMALL_ONES:
            rows = plain.all_situations(field)
            seen = {True: 0, False: 0}
            for number, theory in enumerate(theories(field, seed=2)):
                for ground in grounds(theory, number)[:3:2]:
                    loose = Theory(field, rules=ground)
                    free = [row for row in rows if loose.closure(row) == row and theory.closure(row) != row]
                    pairs = list(itertools.product(free, rows))
                    for thing in [(row,) for row in rows[::7]] + pairs[::len(pairs) // 12 + 1]:
                        due = plain_lists.are_stakes(theory, thing, ground)
                        self.assertIs(are_stakes(theory, thing, ground=ground), due)
                        seen[due] += 1
                    for thing in itertools.product(free[::5], repeat=2):
                        due = plain_lists.are_stakes(theory, thing, ground)
                        self.assertIs(are_stakes(theory, thing, ground=ground), due)
            self.assertGreater(min(seen.values()), 0, field)

    def test_anything(self):
        check_anything(self, are_stakes, THEORY)
        check_anything(self, are_stakes, THEORY, ground=(FIRST,))
        for thing in spoilt(((CHAINED,),), (None, True, 0, "kind", (), [], (0,), (True,), {})):
            right = repr(thing) in ("()", repr(((CHAINED,),)), repr(((CHAINED, BACK),)))
            self.assertIs(told_of(are_stakes, THEORY, thing), right, thing)
        check_refusals(self, lambda theory, ground: are_stakes(theory, None, ground=ground), [
            (THEORY, NoTheory, is_theory), ((), NoRule, is_none),
        ])


class TestFewest(unittest.TestCase):

    def check(self, theory, ground, told):
        listed, stakes = told
        field = theory.field()
        self.assertIs(shows_fewest(theory, told, ground=ground), True)
        self.assertEqual(len(listed), len(stakes))
        self.assertIs(keeps(theory, listed, ground=ground), True)
        self.assertIs(are_stakes(theory, stakes, ground=ground), True)
        self.assertEqual(spare_of(theory, listed, ground=ground), ())
        self.assertEqual(len({least_rule(field, rule) for rule in listed}), len(listed))

    def test_some(self):
        for theory, ground, many in (
            (THEORY, (), 2), (THEORY, (FIRST,), 1), (THEORY, (SECOND, FIRST), 0), (Theory(FIELD), (), 0),
            (DEEPER, (), 2), (DEEPER, (FURTHER,), 2), (DEEPER, (HIDDEN,), 1), (DEEPER, (FURTHER, HIDDEN), 0), (Theory(FIELD, worlds=()), (), 1),
            (Theory(SINGLE, situations=()), (), 1), (Theory(FIELD, rules=(RULE, RULE)), (), 1),
        ):
            told = fewest_of(theory, ground=ground)
            self.check(theory, ground, told)
            self.assertEqual(len(told[0]), many)
            self.assertEqual(fewest_of(theory, ground=ground), told)

    def test_by_the_words(self):
        for field in SMALL_ONES:
            for number, theory in enumerate(theories(field, seed=3)):
                for ground in grounds(theory, number):
                    told = fewest_of(theory, ground=ground)
                    self.check(theory, ground, told)
                    self.assertIs(plain_lists.are_stakes(theory, told[1], ground), True)
                    self.assertIs(plain_lists.keeps(theory, told[0], ground), True)

    def test_widest(self):
        for field in LARGE_ONES:
            for number, theory in enumerate(theories(field, seed=4)):
                for ground in grounds(theory, number)[::2]:
                    self.check(theory, ground, fewest_of(theory, ground=ground))
        # No five atoms together, any four.
        theory = Theory(TEN, situations=tuple(itertools.combinations(atoms_of(TEN, shown=True), 4)))
        told = fewest_of(theory)
        self.check(theory, (), told)
        self.assertEqual(len(told[0]), len({kinds_of(TEN, row) for row in told[1]}))
        self.assertEqual(len(told[0]), 126)

    def test_others_that_are_right(self):
        listed, stakes = fewest_of(THEORY)
        self.assertIs(shows_fewest(THEORY, ((FIRST, SECOND), ((CHAINED,), (CHAINED, BACK, KIND, OTHER)))), True)
        self.assertIs(shows_fewest(THEORY, ((SECOND, FIRST), ((CHAINED, BACK, KIND, OTHER), (BACK,)))), True)
        self.assertIs(shows_fewest(THEORY, (listed[::-1], stakes[::-1])), True)
        more = ((CHAINED, KIND), (KIND,))
        self.assertIs(shows_fewest(THEORY, ((((CHAINED,), (CHAINED, KIND)), SECOND), stakes)), True)
        # Not had ones, spare ones, too few, too many.
        self.assertIs(shows_fewest(THEORY, ((FIRST, RULE), stakes)), False)
        self.assertIs(shows_fewest(THEORY, ((FIRST, SECOND, RULE), stakes)), False)
        self.assertIs(shows_fewest(THEORY, ((FIRST, SECOND, more), stakes)), False)
        self.assertIs(shows_fewest(THEORY, ((FIRST, more), stakes)), False)
        self.assertIs(shows_fewest(THEORY, ((FIRST,), stakes[:1])), False)
        self.assertIs(shows_fewest(THEORY, ((FIRST, SECOND), stakes[:1])), False)
        self.assertIs(shows_fewest(THEORY, ((FIRST, SECOND), stakes + stakes[:1])), False)
        self.assertIs(shows_fewest(THEORY, ((FIRST, SECOND), ((CHAINED,), (BACK,)))), False)
        self.assertIs(shows_fewest(THEORY, ((FIRST, SECOND), ((CHAINED,), (CHAINED, KIND)))), False)
        self.assertIs(shows_fewest(THEORY, ((), ()), ground=(FIRST, SECOND)), True)
        self.assertIs(shows_fewest(THEORY, ((FIRST,), ()), ground=(FIRST, SECOND)), False)
        self.assertIs(shows_fewest(THEORY, ((SECOND,), stakes), ground=(FIRST,)), False)
        self.assertIs(shows_fewest(THEORY, (listed, stakes, ())), False)
        self.assertIs(shows_fewest(THEORY, [listed, stakes]), False)
        self.assertIs(shows_fewest(THEORY, (list(listed), stakes)), False)
        self.assertIs(shows_fewest(THEORY, (listed, list(stakes))), False)
        self.assertIs(shows_fewest(DEEPER, ((HIDDEN,), ((CHAINED,),))), False)
        self.assertIs(shows_fewest(DEEPER, ((FIRST,), ((CHAINED,),)), ground=(HIDDEN,)), True)

    def test_anything(self):
        check_anything(self, shows_fewest, THEORY)
        check_anything(self, shows_fewest, THEORY, ground=(FIRST,))
        told = ((FIRST, SECOND), ((CHAINED,), (CHAINED, BACK, KIND, OTHER)))
        self.assertIs(shows_fewest(THEORY, told), True)
        wrong = 0
        for thing in spoilt(told, (None, True, 0, "kind", (), [], (0,), (True,), {}, KIND, BACK)):
            told_now = told_of(shows_fewest, THEORY, thing)
            self.assertIn(told_now, (True, False), thing)
            wrong += not told_now
        self.assertGreater(wrong, 300)
        check_refusals(self, lambda theory, ground: shows_fewest(theory, None, ground=ground), [
            (THEORY, NoTheory, is_theory), ((), NoRule, is_none),
        ])
        check_refusals(self, fewest_of, [(THEORY, NoTheory, is_theory), ((), NoRule, is_none)], ("ground",))

    def test_shown_rules_are_walked_from_a_kept_list(self):
        for field in (FIELD, WIDE):
            for theory in theories(field, seed=5):
                listed, _ = fewest_of(theory)
                told = Theory(field, rules=listed)
                self.assertEqual(told, theory)
                for rule in plain.some_rules(field, 30, shown=True, seed=6):
                    self.assertIs(told.has(rule), theory.has(rule))

    def test_a_refused_one_changes_nothing(self):
        before = fewest_of(THEORY)
        for thing in any_things():
            told = told_of(keeps, THEORY, thing, ground=thing)
            self.assertIs(told, False if thing == () else NoRule, thing)
        self.assertEqual(fewest_of(THEORY), before)


if __name__ == "__main__":
    unittest.main()
