"""Closed situations in order, their kinds, those above and the height."""

import unittest

from lorestead.errors import NoNumber, NoSituation, NoTheory
from lorestead.fields.fields import atoms_of
from lorestead.fields.renamings import kinds_of, least_row
from lorestead.theories.closed import above_of, closed_at, closed_of, height_of, kinds_closed, number_of
from lorestead.theories.theories import Theory
from tests import plain, plain_lists
from tests.plain_lists import KNIT, LARGE_ONES, SINGLE, SMALL_ONES, TEN, THREE, theories
from tests.things import CHAIN, FIELD, WIDE, any_things, check_refusals, spoilt, told_of

KIND, OTHER = ("kind", (0,)), ("kind", (1,))
CHAINED, BACK = (CHAIN, (0, 1)), (CHAIN, (1, 0))
SHOWN = atoms_of(FIELD, shown=True)
RULE = ((KIND,), (OTHER,))
SOME = Theory(FIELD, situations=((CHAINED, KIND), (OTHER,)))


def is_theory(thing):
    return isinstance(thing, Theory)


class TestOrder(unittest.TestCase):

    def test_by_situations(self):
        self.assertEqual(closed_of(SOME), (
            (), (KIND,), (OTHER,), (CHAINED, KIND), (BACK, OTHER), SHOWN,
        ))

    def test_first_by_how_many_then_as_rows(self):
        rows = closed_of(Theory(THREE))
        one, two, three = [("kind", (unknown,)) for unknown in range(3)]
        due = ((), (one,), (two,), (three,), (one, two), (one, three), (two, three), (one, two, three))
        self.assertEqual(rows, due)
        self.assertEqual(closed_of(Theory(WIDE)), tuple(plain.all_situations(WIDE)))

    def test_told_in_three_ways(self):
        told = (
            Theory(THREE, rules=(((("kind", (0,)),), (("kind", (2,)),)),)),
            Theory(THREE, worlds=((3, ()), (3, (("kind", (0,)), ("kind", (1,)), ("kind", (2,)))))),
            Theory(THREE, situations=((),)),
        )
        for theory in told:
            self.assertEqual(closed_of(theory), ((), atoms_of(THREE)))

    def test_of_none(self):
        self.assertEqual(closed_of(Theory(SINGLE)), ((), (KIND,)))
        self.assertEqual(closed_of(Theory(SINGLE, rules=())), ((), (KIND,)))
        self.assertEqual(closed_of(Theory(SINGLE, worlds=())), ((KIND,),))
        self.assertEqual(closed_of(Theory(SINGLE, situations=())), ((KIND,),))
        self.assertEqual(closed_of(Theory(FIELD, worlds=((1, ()),))), (SHOWN,))

    def test_many(self):
        for field in SMALL_ONES + LARGE_ONES:
            for theory in theories(field):
                due = tuple(plain_lists.closed(theory))
                self.assertEqual(closed_of(theory), due)
                self.assertEqual(len(theory), len(due))
                for number in list(range(len(due)))[::len(due) // 40 + 1]:
                    self.assertEqual(closed_at(theory, number), due[number])
                    self.assertEqual(number_of(theory, due[number]), number)
                self.assertEqual(closed_at(theory, len(due) - 1), atoms_of(field, shown=True))

    def test_no_number(self):
        for wrong in (6, -1, True, False, None, "0", (0,), [], 10 ** 40 - 1):
            with self.assertRaises(NoNumber) as caught:
                closed_at(SOME, wrong)
            self.assertEqual(caught.exception.number, wrong)
        self.assertEqual(closed_at(SOME, 5), SHOWN)

    def test_one_that_is_not_closed(self):
        for wrong in ((CHAINED,), (KIND, OTHER), (KIND, KIND), (OTHER, BACK), [KIND], (("likes", (0, 1)),), None):
            self.assertIs(told_of(number_of, SOME, wrong), NoSituation)
            self.assertIs(told_of(above_of, SOME, wrong), NoSituation)
        for wrong in spoilt((BACK, OTHER), (None, True, 0, "kind", (), [], (True,), {})):
            told = told_of(number_of, SOME, wrong)
            self.assertEqual(told, {repr(row): at for at, row in enumerate(closed_of(SOME))}.get(repr(wrong), NoSituation))

    def test_refusals(self):
        for call in (closed_of, kinds_closed, height_of):
            check_refusals(self, call, [(SOME, NoTheory, is_theory)])
        check_refusals(self, closed_at, [
            (SOME, NoTheory, is_theory), (0, NoNumber, lambda thing: type(thing) is int and 0 <= thing < 6),
        ])
        for call in (number_of, above_of):
            rows = [repr(row) for row in closed_of(SOME)]
            check_refusals(self, call, [
                (SOME, NoTheory, is_theory), ((), NoSituation, lambda thing: repr(thing) in rows),
            ])
        self.assertIs(told_of(closed_at, Theory, 0), NoTheory)


class TestKinds(unittest.TestCase):

    def test_some(self):
        self.assertEqual(kinds_closed(SOME), (((), 1), ((KIND,), 2), ((CHAINED, KIND), 2), (SHOWN, 1)))
        self.assertEqual(kinds_closed(Theory(SINGLE, worlds=())), (((KIND,), 1),))
        one, two, three = [("kind", (unknown,)) for unknown in range(3)]
        due = (((), 1), ((one,), 3), ((one, two), 3), ((one, two, three), 1))
        self.assertEqual(kinds_closed(Theory(THREE)), due)

    def test_many(self):
        for field in SMALL_ONES + LARGE_ONES:
            for theory in theories(field, seed=1):
                rows = closed_of(theory)
                due = [(row, len(kinds_of(field, row))) for row in rows if least_row(field, row) == row]
                self.assertEqual(kinds_closed(theory), tuple(due))
                self.assertEqual(sum(many for _, many in due), len(rows))


class TestAbove(unittest.TestCase):

    def test_some(self):
        self.assertEqual(above_of(SOME, ()), ((KIND,), (OTHER,)))
        self.assertEqual(above_of(SOME, (KIND,)), ((CHAINED, KIND),))
        self.assertEqual(above_of(SOME, (CHAINED, KIND)), (SHOWN,))
        self.assertEqual(above_of(SOME, SHOWN), ())

    def test_many(self):
        for field in SMALL_ONES + LARGE_ONES:
            for theory in theories(field, seed=2):
                rows = [set(row) for row in closed_of(theory)]
                for row in closed_of(theory)[::len(rows) // 12 + 1]:
                    higher = [other for other in rows if other > set(row)]
                    due = [plain.row_of(field, other) for other in higher if not any(other > amid for amid in higher)]
                    self.assertEqual(above_of(theory, row), tuple(due))

    def test_height(self):
        self.assertEqual(height_of(SOME), 3)
        self.assertEqual(height_of(Theory(TEN)), 10)
        self.assertEqual(height_of(Theory(TEN, worlds=())), 0)
        self.assertEqual(height_of(Theory(FIELD, rules=(RULE,))), 5)
        self.assertEqual(height_of(Theory(KNIT)), 4)
        for field in SMALL_ONES:
            for theory in theories(field, seed=3):
                heights = {}
                for row in closed_of(theory):
                    beneath = [heights[other] for other in heights if set(other) < set(row)]
                    heights[row] = max(beneath, default=-1) + 1
                self.assertEqual(height_of(theory), max(heights.values()))


class TestAnything(unittest.TestCase):

    def test_told_alike_again(self):
        theory = Theory(FIELD, rules=(RULE,))
        before = (closed_of(theory), kinds_closed(theory), height_of(theory), above_of(theory, ()))
        for thing in any_things():
            told_of(closed_at, theory, thing)
            told_of(number_of, theory, thing)
        self.assertEqual((closed_of(theory), kinds_closed(theory), height_of(theory), above_of(theory, ())), before)


if __name__ == "__main__":
    unittest.main()
