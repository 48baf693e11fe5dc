"""Two theories of one field: joined, shared, compared, and news."""

import itertools
import unittest

from lorestead.errors import NoTheory, Unlike
from lorestead.lists.primes import found_rules, is_prime
from lorestead.lists.two import compared_of, joined_of, news_of, shared_of, shows_compared
from lorestead.rules.rules import renamed_rule
from lorestead.theories.closed import closed_of
from lorestead.theories.theories import Theory
from tests import plain, plain_lists
from tests.plain_lists import KNIT, LARGE_ONES, SMALL_ONES, theories
from tests.things import CHAIN, FIELD, NOTIONS, WIDE, any_things, check_anything, check_refusals, spoilt, told_of

KIND, OTHER = ("kind", (0,)), ("kind", (1,))
CHAINED, BACK, ROUND = (CHAIN, (0, 1)), (CHAIN, (1, 0)), (CHAIN, (0, 0))
RULE = ((KIND,), (OTHER,))
FIRST = ((CHAINED,), (KIND,))
SECOND = ((CHAINED, BACK), (ROUND,))
ONE, TWO, BOTH = Theory(FIELD, rules=(FIRST,)), Theory(FIELD, rules=(SECOND,)), Theory(FIELD, rules=(FIRST, SECOND))
PAIR_CALLS = (joined_of, shared_of, compared_of, news_of)


def is_theory(thing):
    return isinstance(thing, Theory)


class TestJoinedAndShared(unittest.TestCase):

    def test_some(self):
        self.assertEqual(joined_of(ONE, TWO), BOTH)
        self.assertEqual(joined_of(TWO, ONE), BOTH)
        self.assertEqual(shared_of(ONE, BOTH), ONE)
        self.assertEqual(joined_of(ONE, BOTH), BOTH)
        # Shared are not just the rules that they are told by.
        shared = shared_of(ONE, TWO)
        self.assertIs(shared.has(FIRST), False)
        self.assertIs(shared.has(SECOND), False)
        self.assertIs(shared.has(((CHAINED, BACK), (KIND,))), False)
        one, two = Theory(FIELD, rules=(FIRST,)), Theory(FIELD, rules=(((BACK,), (KIND,)),))
        self.assertIs(shared_of(one, two).has(((CHAINED, BACK), (KIND,))), True)
        self.assertIs(shared_of(one, two).has(((CHAINED,), (KIND,))), False)
        for theory in (ONE, Theory(FIELD), Theory(FIELD, worlds=())):
            self.assertEqual(joined_of(theory, theory), theory)
            self.assertEqual(shared_of(theory, theory), theory)
            self.assertEqual(joined_of(theory, Theory(FIELD)), theory)
            self.assertEqual(shared_of(theory, Theory(FIELD)), Theory(FIELD))
            self.assertEqual(joined_of(theory, Theory(FIELD, situations=())), Theory(FIELD, situations=()))
            self.assertEqual(shared_of(theory, Theory(FIELD, worlds=())), theory)

    def test_in_three_ways(self):
        told = (
            Theory(FIELD, rules=(FIRST, SECOND)), Theory(FIELD, worlds=tuple(plain.some_worlds(FIELD, 3))),
            Theory(FIELD, situations=((KIND,), (CHAINED, KIND))),
        )
        for one, other in itertools.product(told, repeat=2):
            joined, shared = joined_of(one, other), shared_of(one, other)
            self.assertEqual(joined.field(), FIELD)
            self.assertEqual(set(closed_of(joined)), set(closed_of(one)) & set(closed_of(other)))
            for rule in plain.some_rules(FIELD, 200, shown=True, seed=1):
                self.assertIs(shared.has(rule), one.has(rule) and other.has(rule))

    def test_many(self):
        for field in SMALL_ONES + LARGE_ONES:
            every = theories(field, seed=1)
            step = 1 if field in SMALL_ONES[:4] else 3
            for one, other in list(itertools.product(every, repeat=2))[::step]:
                joined, shared = joined_of(one, other), shared_of(one, other)
                self.assertEqual(set(closed_of(joined)), set(closed_of(one)) & set(closed_of(other)))
                closed = set(closed_of(shared))
                self.assertLessEqual(set(closed_of(one)) | set(closed_of(other)), closed)
                for row in plain.all_situations(field)[::len(closed) // 8 + 1]:
                    both = set(one.closure(row)) & set(other.closure(row))
                    self.assertEqual(set(shared.closure(row)), both)


class TestCompared(unittest.TestCase):

    def test_some(self):
        self.assertEqual(compared_of(ONE, BOTH), ("within",))
        self.assertEqual(compared_of(ONE, ONE), ("within",))
        self.assertEqual(compared_of(Theory(FIELD), ONE), ("within",))
        word, rule = compared_of(BOTH, ONE)
        self.assertEqual(word, "beyond")
        self.assertIs(is_prime(BOTH, rule), True)
        self.assertIs(ONE.has(rule), False)
        self.assertEqual(compared_of(TWO, ONE)[0], "beyond")
        self.assertEqual(compared_of(ONE, TWO)[0], "beyond")

    def test_shows(self):
        self.assertIs(shows_compared(ONE, BOTH, ("within",)), True)
        self.assertIs(shows_compared(BOTH, ONE, ("within",)), False)
        self.assertIs(shows_compared(BOTH, ONE, ("beyond", SECOND)), True)
        self.assertIs(shows_compared(BOTH, ONE, ("beyond", renamed_rule(FIELD, SECOND, (1, 0)))), True)
        # A rule that the other has, that the one hasn't, that isn't prime.
        self.assertIs(shows_compared(BOTH, ONE, ("beyond", FIRST)), False)
        self.assertIs(shows_compared(ONE, TWO, ("beyond", SECOND)), False)
        self.assertIs(shows_compared(BOTH, ONE, ("beyond", RULE)), False)
        self.assertIs(shows_compared(BOTH, ONE, ("beyond", ((CHAINED, BACK, KIND), (ROUND,)))), False)
        self.assertIs(shows_compared(BOTH, ONE, ("beyond", ((CHAINED, BACK), (ROUND, KIND)))), False)
        for wrong in ((), ("within", SECOND), ("beyond",), ("beyond", SECOND, ()), ["beyond", SECOND], ("within", None)):
            self.assertIs(shows_compared(BOTH, ONE, wrong), False)
            self.assertIs(shows_compared(ONE, BOTH, wrong), False)

    def test_many(self):
        for field in SMALL_ONES + LARGE_ONES:
            every = theories(field, seed=2)
            for one, other in list(itertools.product(every, repeat=2))[::1 if field in SMALL_ONES else 4]:
                told = compared_of(one, other)
                within = set(closed_of(other)) <= set(closed_of(one))
                self.assertIs(told == ("within",), within)
                self.assertIs(shows_compared(one, other, told), True)
                self.assertIs(shows_compared(one, other, ("within",)), within)
                if not within:
                    self.assertEqual(told[0], "beyond")
                    self.assertIs(is_prime(one, told[1]), True)
                    self.assertIs(other.has(told[1]), False)
                for rule in plain.some_rules(field, 8, shown=True, thens=1, seed=3):
                    due = is_prime(one, rule) and not other.has(rule)
                    self.assertIs(shows_compared(one, other, ("beyond", rule)), due)

    def test_anything(self):
        check_anything(self, shows_compared, BOTH, ONE)
        check_anything(self, shows_compared, ONE, BOTH)
        right = [("beyond", SECOND), ("beyond", renamed_rule(FIELD, SECOND, (1, 0)))]
        for thing in spoilt(("beyond", SECOND), (None, True, 0, 1, "within", (), [], (0,), (True,), {}, KIND)):
            self.assertIs(told_of(shows_compared, BOTH, ONE, thing), repr(thing) in map(repr, right), thing)


class TestNews(unittest.TestCase):

    def test_some(self):
        lost, won = news_of(ONE, BOTH)
        self.assertEqual(lost, ())
        self.assertEqual([rule for rule in found_rules(BOTH) if not ONE.has(rule)], list(won))
        self.assertEqual(news_of(BOTH, ONE), (won, lost))
        self.assertEqual(news_of(BOTH, BOTH), ((), ()))
        self.assertEqual(news_of(Theory(FIELD), ONE), ((), found_rules(ONE)))

    def test_many(self):
        for field in SMALL_ONES + (WIDE,):
            every = theories(field, seed=3)
            for one, other in list(itertools.product(every, repeat=2))[::1 if field != WIDE else 5]:
                lost, won = news_of(one, other)
                self.assertEqual(lost, tuple(rule for rule in found_rules(one) if not other.has(rule)))
                self.assertEqual(won, tuple(rule for rule in found_rules(other) if not one.has(rule)))
                self.assertEqual(news_of(other, one), (won, lost))


class TestRefusals(unittest.TestCase):

    def test_anything(self):
        for call in PAIR_CALLS:
            check_refusals(self, call, [(ONE, NoTheory, is_theory), (TWO, NoTheory, is_theory)])
        check_refusals(self, lambda one, other: shows_compared(one, other, None), [
            (ONE, NoTheory, is_theory), (TWO, NoTheory, is_theory),
        ])

    def test_two_fields(self):
        others = (Theory(KNIT), Theory((NOTIONS, FIELD[1][::-1], 2)), Theory((NOTIONS[::-1], FIELD[1], 2)))
        for call in PAIR_CALLS + (lambda one, other: shows_compared(one, other, ("within",)),):
            for other in others:
                self.assertIs(told_of(call, ONE, other), Unlike)
                self.assertIs(told_of(call, other, ONE), Unlike)
                self.assertIs(told_of(call, None, other), NoTheory)
                self.assertIs(told_of(call, other, None), NoTheory)
            self.assertIsNot(told_of(call, ONE, Theory((tuple(NOTIONS), (CHAIN, "kind"), 2))), Unlike)

    def test_told_alike_again(self):
        before = (compared_of(ONE, TWO), news_of(ONE, TWO), joined_of(ONE, TWO).situations())
        for thing in any_things():
            told_of(shows_compared, ONE, TWO, thing)
        self.assertEqual((compared_of(ONE, TWO), news_of(ONE, TWO), joined_of(ONE, TWO).situations()), before)
        self.assertEqual(plain_lists.closed(ONE), list(closed_of(ONE)))


if __name__ == "__main__":
    unittest.main()
