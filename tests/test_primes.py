"""Prime rules, found rules, uses and books."""

import itertools
import unittest

from lorestead.errors import NoField, NoGround, NoRule, NoTheory
from lorestead.fields.fields import atoms_of, is_field
from lorestead.lists.fewest import fewest_of, keeps
from lorestead.lists.primes import book_of, found_rules, is_prime, shows_book, uses_of
from lorestead.rules.rules import is_rule_ahead, least_rule, renamed_rule
from lorestead.theories.theories import Theory
from tests import plain, plain_lists
from tests.plain_lists import KNIT, LARGE_ONES, SINGLE, SMALL_ONES, TEN, THREE, grounds, theories
from tests.things import CHAIN, DEEP, FIELD, WIDE, any_things, check_anything, check_refusals, spoilt, told_of

KIND, OTHER = ("kind", (0,)), ("kind", (1,))
CHAINED, BACK, ROUND = (CHAIN, (0, 1)), (CHAIN, (1, 0)), (CHAIN, (0, 0))
LIKES = ("likes", (0, 1))
SHOWN = atoms_of(FIELD, shown=True)
RULE = ((KIND,), (OTHER,))
FIRST = ((CHAINED,), (KIND,))
SECOND = ((CHAINED, BACK), (ROUND,))
THEORY = Theory(FIELD, rules=(FIRST, SECOND))
SPOILERS = (None, True, False, 0, 1, "kind", (), [], (0,), (True,), {}, KIND, OTHER, CHAINED)


def is_theory(thing):
    return isinstance(thing, Theory)


def is_none(thing):
    return thing == ()


class TestPrimes(unittest.TestCase):

    def test_some(self):
        self.assertIs(is_prime(THEORY, FIRST), True)
        self.assertIs(is_prime(THEORY, ((BACK,), (OTHER,))), True)
        self.assertIs(is_prime(THEORY, SECOND), True)
        # An if too many, two thens, the then among the ifs, not had.
        self.assertIs(is_prime(THEORY, ((CHAINED, BACK), (KIND,))), False)
        self.assertIs(is_prime(THEORY, ((CHAINED, OTHER), (KIND,))), False)
        self.assertIs(is_prime(THEORY, ((CHAINED, BACK), (KIND, OTHER))), False)
        self.assertIs(is_prime(THEORY, ((CHAINED,), (CHAINED, KIND))), False)
        self.assertIs(is_prime(THEORY, ((KIND,), (KIND,))), False)
        self.assertIs(is_prime(THEORY, ((CHAINED,), (CHAINED,))), False)
        self.assertIs(is_prime(THEORY, RULE), False)
        self.assertIs(is_prime(THEORY, ((), (KIND,))), False)
        self.assertIs(is_prime(Theory(FIELD, worlds=()), ((), (KIND,))), True)
        self.assertIs(is_prime(Theory(FIELD, worlds=()), FIRST), False)
        # One that isn't shown, though had.
        theory = Theory(FIELD, rules=(((LIKES,), (KIND,)),))
        self.assertIs(is_prime(theory, ((LIKES,), (KIND,))), False)

    def test_many(self):
        for field in SMALL_ONES:
            rules = [(row, (atom,)) for row in plain.all_situations(field) for atom in atoms_of(field, shown=True)]
            for theory in theories(field):
                for rule in rules[::len(rules) // 60 + 1]:
                    self.assertIs(is_prime(theory, rule), plain_lists.is_prime(theory, rule))
                for rule in plain_lists.all_primes(theory):
                    self.assertIs(is_prime(theory, rule), True)

    def test_anything(self):
        check_anything(self, is_prime, THEORY)
        right = {repr(renamed_rule(FIELD, rule, renaming)) for rule in found_rules(THEORY)
                 for renaming in ((0, 1), (1, 0))}
        for rule in (FIRST, SECOND):
            for thing in spoilt(rule, SPOILERS):
                self.assertIs(told_of(is_prime, THEORY, thing), repr(thing) in right, thing)
        check_refusals(self, lambda theory: is_prime(theory, None), [(THEORY, NoTheory, is_theory)])


class TestFound(unittest.TestCase):

    def test_some(self):
        # Rows as atoms stand: the second of the kind is reached by what is renamed.
        self.assertEqual(found_rules(THEORY), (least_rule(FIELD, FIRST), least_rule(FIELD, SECOND)))
        self.assertEqual(found_rules(Theory(FIELD)), ())
        self.assertEqual(found_rules(Theory(FIELD, rules=(RULE,))), (RULE,))
        self.assertEqual(found_rules(Theory(FIELD, rules=(((OTHER,), (KIND,)),))), (RULE,))
        due = (((), (ROUND,)), ((), (CHAINED,)), ((), (KIND,)))
        self.assertEqual(found_rules(Theory(FIELD, worlds=())), due)
        # What holds by term rows alone is found, too.
        turned = ("turned", "likes")
        self.assertIn((((turned, (0, 1)),), (("likes", (1, 0)),)), found_rules(Theory(KNIT)))

    def test_in_three_ways(self):
        one, two, three = [("kind", (unknown,)) for unknown in range(3)]
        for theory in (
            Theory(THREE, rules=(((one, two), (three,)),)),
            Theory(THREE, worlds=((3, ()), (3, (("kind", (1,)),)))),
            Theory(THREE, situations=((one,),)),
        ):
            self.assertEqual(found_rules(theory), (((one, two), (three,)),))
        self.assertEqual(found_rules(Theory(SINGLE, situations=())), (((), (KIND,)),))

    def test_many(self):
        for field in SMALL_ONES + (WIDE,):
            for theory in theories(field, seed=1)[::1 if field != WIDE else 3]:
                self.assertEqual(found_rules(theory), tuple(plain_lists.found(theory)))

    def test_what_they_keep(self):
        for field in SMALL_ONES + LARGE_ONES:
            for theory in theories(field, seed=2):
                rules = found_rules(theory)
                self.assertEqual(found_rules(theory), rules)
                for one, other in itertools.pairwise(rules):
                    self.assertIs(is_rule_ahead(field, one, other), True)
                for rule in rules[:40]:
                    self.assertIs(is_prime(theory, rule), True)
                    self.assertEqual(least_rule(field, rule), rule)
                if len(rules) <= 300:
                    self.assertIs(keeps(theory, rules), True)
                    self.assertEqual(Theory(field, rules=rules), theory)

    def test_very_many(self):
        theory = Theory(TEN, situations=tuple(itertools.combinations(atoms_of(TEN, shown=True), 4)))
        rules = found_rules(theory)
        self.assertEqual(len(rules), 630)
        self.assertEqual({len(ifs) for ifs, _ in rules}, {5})

    def test_refusals(self):
        check_refusals(self, found_rules, [(THEORY, NoTheory, is_theory)])


class TestUses(unittest.TestCase):

    def test_some(self):
        self.assertEqual(uses_of(FIELD, ()), ())
        self.assertEqual(uses_of(FIELD, (RULE,)), (32,))
        self.assertEqual(uses_of(FIELD, (RULE, RULE)), (0, 0))
        self.assertEqual(uses_of(FIELD, (RULE, ((OTHER,), (KIND,)))), (0, 0))
        self.assertEqual(uses_of(FIELD, (RULE,), ground=(RULE,)), (0,))
        self.assertEqual(uses_of(FIELD, (((KIND,), (KIND,)),)), (0,))
        self.assertEqual(uses_of(FIELD, (((), SHOWN), RULE)), (61, 0))
        # A hidden ground.
        ground = ((((CHAIN, (0, 1)),), (LIKES,)), ((LIKES,), (KIND,)))
        self.assertEqual(uses_of(FIELD, (FIRST,), ground=ground), (0,))
        self.assertNotEqual(uses_of(FIELD, (FIRST,), ground=ground[:1]), (0,))
        # Of all situations, whole or not.
        self.assertEqual(uses_of(KNIT, (((), atoms_of(KNIT, shown=True)),)), (175,))

    def test_many(self):
        for field in SMALL_ONES:
            for seed in range(3):
                rules = tuple(plain.some_rules(field, 5, shown=True, seed=seed))
                for ground in ((), tuple(plain.some_rules(field, 3, seed=seed + 9))):
                    due = tuple(plain_lists.uses(field, rules, ground))
                    self.assertEqual(uses_of(field, rules, ground=ground), due)
            for theory in theories(field, seed=3)[::3]:
                rules = found_rules(theory)[:6]
                self.assertEqual(uses_of(field, rules), tuple(plain_lists.uses(field, rules)))

    def test_widest(self):
        rules = tuple(plain.some_rules(TEN, 300, shown=True, ifs=6, thens=1, seed=4))
        ground = tuple(plain.some_rules(TEN, 300, ifs=8, thens=1, seed=5))
        self.assertEqual(len(uses_of(TEN, rules, ground=ground)), 300)
        rules = tuple(plain.some_rules(DEEP, 4, shown=True, ifs=4, thens=1, seed=6))
        self.assertEqual(uses_of(DEEP, rules), tuple(plain_lists.uses(DEEP, rules)))

    def test_refusals(self):
        check_refusals(self, uses_of, [
            (FIELD, NoField, is_field), ((), NoRule, is_none), ((), NoRule, is_none),
        ], ("ground",))
        for wrong in (RULE, [RULE], (RULE, None), (((LIKES,), (KIND,)),), ((RULE[0], ()),), (RULE,) * 301):
            self.assertIs(told_of(uses_of, FIELD, wrong), NoRule)
        for wrong in (RULE, [RULE], (RULE, None), ((RULE[0], ()),), (RULE,) * 301):
            self.assertIs(told_of(uses_of, FIELD, (RULE,), ground=wrong), NoRule)
        self.assertEqual(uses_of(FIELD, (RULE,), ground=(((LIKES,), (KIND,)),)), (32,))


class TestBook(unittest.TestCase):

    def test_some(self):
        book = book_of(THEORY)
        self.assertEqual({rule for rule, _ in book}, {least_rule(FIELD, FIRST), book[1][0]})
        self.assertEqual([use for _, use in book], sorted([use for _, use in book], reverse=True))
        self.assertIs(shows_book(THEORY, book), True)
        self.assertEqual(book_of(THEORY), book)
        self.assertEqual(book_of(Theory(FIELD)), ())
        self.assertEqual(book_of(THEORY, ground=(FIRST, SECOND)), ())
        self.assertEqual(book_of(Theory(FIELD, rules=(((OTHER,), (KIND,)),))), ((RULE, 32),))

    def test_right_and_wrong_ones(self):
        one, two = least_rule(FIELD, FIRST), least_rule(FIELD, SECOND)
        uses = uses_of(FIELD, (one, two))
        book = tuple(zip((one, two), uses))
        self.assertGreater(uses[0], uses[1])
        self.assertIs(shows_book(THEORY, book), True)
        # Another list of fewest rows.
        more = ((CHAINED, BACK), (ROUND, KIND))
        other = ((one, uses_of(FIELD, (one, least_rule(FIELD, more)))[0]), (least_rule(FIELD, more), uses[1]))
        self.assertIs(shows_book(THEORY, other), True)
        # Wrong orders, uses, rows; too few and too many.
        self.assertIs(shows_book(THEORY, book[::-1]), False)
        for use in (uses[1] + 1, uses[1] - 1, 0, uses[0], True, None, "8", (uses[1],)):
            self.assertIs(shows_book(THEORY, (book[0], (two, use))), False)
        self.assertIs(shows_book(THEORY, book[:1]), False)
        self.assertIs(shows_book(THEORY, book + ((RULE, 0),)), False)
        self.assertIs(shows_book(THEORY, book + (book[1],)), False)
        for rule in (FIRST, SECOND):
            turned = renamed_rule(FIELD, least_rule(FIELD, rule), (1, 0))
            told = tuple((turned if pair[0] == least_rule(FIELD, rule) else pair[0], pair[1]) for pair in book)
            self.assertIs(shows_book(THEORY, told), told == book)
        spare = (one, two, ((CHAINED, KIND), (KIND,)))
        self.assertIs(shows_book(THEORY, tuple(zip(spare, uses_of(FIELD, spare)))), False)
        self.assertIs(shows_book(THEORY, ()), False)
        self.assertIs(shows_book(THEORY, (), ground=(FIRST, SECOND)), True)
        self.assertIs(shows_book(THEORY, book, ground=(FIRST,)), False)

    def test_rising_where_uses_are_alike(self):
        one, two = ((KIND,), (ROUND,)), ((ROUND,), (KIND,))
        theory = Theory(FIELD, rules=(one, two))
        uses = uses_of(FIELD, (one, two))
        self.assertEqual(uses[0], uses[1])
        rules = sorted((one, two), key=lambda rule: plain.rule_key(FIELD, rule))
        book = tuple((rule, uses[0]) for rule in rules)
        self.assertIs(shows_book(theory, book), True)
        self.assertIs(shows_book(theory, book[::-1]), False)
        self.assertEqual(sorted(book_of(theory), key=lambda pair: plain.rule_key(FIELD, pair[0])), list(book_of(theory)))

    def test_a_use_of_one(self):
        theory = Theory(SINGLE, worlds=())
        self.assertEqual(book_of(theory), ((((), (KIND,)), 1),))
        self.assertIs(shows_book(theory, ((((), (KIND,)), 1),)), True)
        for wrong in (True, False, 0, "1", None, (1,)):
            self.assertIs(shows_book(theory, ((((), (KIND,)), wrong),)), False)

    def test_by_the_words(self):
        for field in SMALL_ONES:
            for number, theory in enumerate(theories(field, seed=5)):
                for ground in grounds(theory, number)[:2]:
                    book = book_of(theory, ground=ground)
                    rules = tuple(rule for rule, _ in book)
                    self.assertEqual(len(rules), len(fewest_of(theory, ground=ground)[0]))
                    self.assertIs(plain_lists.is_book(theory, book, ground), True)
                    self.assertIs(shows_book(theory, book, ground=ground), True)
                    if len(book) > 1:
                        self.assertIs(shows_book(theory, book[1:] + book[:1], ground=ground), False)

    def test_widest(self):
        for field in LARGE_ONES:
            for number, theory in enumerate(theories(field, seed=6)):
                for ground in grounds(theory, number)[::3]:
                    book = book_of(theory, ground=ground)
                    self.assertEqual(len(book), len(fewest_of(theory, ground=ground)[0]))
                    self.assertIs(shows_book(theory, book, ground=ground), True)

    def test_refusals(self):
        check_anything(self, shows_book, THEORY)
        check_anything(self, shows_book, THEORY, ground=(FIRST,))
        book = book_of(THEORY)
        for thing in spoilt(book, SPOILERS):
            told = told_of(shows_book, THEORY, thing)
            self.assertIn(told, (True, False))
            if told:
                self.assertIs(plain_lists.is_book(THEORY, thing), True, thing)
        check_refusals(self, book_of, [(THEORY, NoTheory, is_theory), ((), NoRule, is_none)], ("ground",))
        check_refusals(self, lambda theory, ground: shows_book(theory, None, ground=ground), [
            (THEORY, NoTheory, is_theory), ((), NoRule, is_none),
        ], ("ground",))
        for call in (book_of, lambda theory, ground: shows_book(theory, (), ground=ground)):
            with self.assertRaises(NoGround) as caught:
                call(THEORY, ground=(FIRST, SECOND, RULE))
            self.assertEqual(caught.exception.number, 2)
            self.assertIs(told_of(call, THEORY, ground=(RULE, None)), NoRule)

    def test_told_alike_again(self):
        before = (found_rules(THEORY), book_of(THEORY))
        for thing in any_things():
            told_of(is_prime, THEORY, thing)
            told_of(book_of, THEORY, ground=thing)
        self.assertEqual((found_rules(THEORY), book_of(THEORY)), before)


if __name__ == "__main__":
    unittest.main()
