"""Renamings, and what atoms and rows become by them."""

import itertools
import unittest

from lorestead.errors import NoAtom, NoField, NoMost, NoRenaming, NoRow
from lorestead.fields.fields import atoms_of, place_of
from lorestead.fields.renamings import (
    are_alike, is_row, kinds_of, least_row, renamed_atom, renamed_row, renamings, row_of,
)
from tests.things import BIG, CHAIN, FIELD, FIELDS, FLAT, LONE, WIDE, any_things, spoilt, told_of

KIND, LIKES = ("kind", (1,)), ("likes", (0, 1))
ROW = (KIND, LIKES)


def some_rows(field):
    """Rows of the field of all lengths up to three, a part of them, and the row of all atoms."""
    atoms = atoms_of(field)
    rows = [row for many in range(4) for row in itertools.combinations(atoms, many)]
    return rows[::3] + [atoms]


def plain_renamed(field, row, renaming):
    """The renamed row, worked out by the tests' own sorting."""
    renamed = {(term, tuple(renaming[unknown] for unknown in unknowns)) for term, unknowns in row}
    return tuple(sorted(renamed, key=lambda atom: place_of(field, atom)))


class TestRenamings(unittest.TestCase):

    def test_all_rising(self):
        self.assertEqual(renamings(1), ((0,),))
        self.assertEqual(renamings(2), ((0, 1), (1, 0)))
        told = ((0, 1, 2), (0, 2, 1), (1, 0, 2), (1, 2, 0), (2, 0, 1), (2, 1, 0))
        self.assertEqual(renamings(3), told)

    def test_no_whole_number_from_one_to_three(self):
        for many in (0, 4, -1, BIG, -BIG, True, False, None, "1", "", (1,), [2], {}, {3: 3}):
            self.assertIs(told_of(renamings, many), NoMost, many)

    def test_anything(self):
        for thing in any_things():
            is_right = repr(thing) in ("1", "2", "3")
            self.assertIs(told_of(renamings, thing) is NoMost, not is_right, thing)


class TestRenamed(unittest.TestCase):

    def test_unknown_becomes_the_one_in_its_place(self):
        self.assertEqual(renamed_atom(WIDE, ("likes", (0, 1)), (2, 0, 1)), ("likes", (2, 0)))
        self.assertEqual(renamed_atom(WIDE, ("likes", (2, 2)), (2, 0, 1)), ("likes", (1, 1)))
        self.assertEqual(renamed_atom(FIELD, (CHAIN, (1, 0)), (1, 0)), (CHAIN, (0, 1)))
        self.assertEqual(renamed_atom(LONE, ("kind", (0,)), (0,)), ("kind", (0,)))

    def test_rows_rise_again(self):
        self.assertEqual(renamed_row(FIELD, (("kind", (0,)), ("kind", (1,))), (1, 0)), (("kind", (0,)), ("kind", (1,))))
        self.assertEqual(renamed_row(FIELD, ROW, (1, 0)), (("kind", (0,)), ("likes", (1, 0))))
        row = (("likes", (0, 1)), ("likes", (1, 2)))
        self.assertEqual(renamed_row(WIDE, row, (1, 2, 0)), (("likes", (1, 2)), ("likes", (2, 0))))
        self.assertEqual(renamed_row(WIDE, row, (2, 0, 1)), (("likes", (0, 1)), ("likes", (2, 0))))
        self.assertEqual(renamed_row(FIELD, (), (1, 0)), ())

    def test_many_rows(self):
        for field in FIELDS:
            for renaming in renamings(field[2]):
                for row in some_rows(field):
                    told = renamed_row(field, row, renaming)
                    self.assertEqual(told, plain_renamed(field, row, renaming))
                    self.assertIs(is_row(field, told), True)
                for atom in atoms_of(field):
                    self.assertEqual((renamed_atom(field, atom, renaming),), renamed_row(field, (atom,), renaming))

    def test_renaming_of_none_changes_nothing(self):
        for field in FIELDS:
            same = renamings(field[2])[0]
            for row in some_rows(field):
                self.assertEqual(renamed_row(field, row, same), row)

    def test_no_renaming(self):
        wrong = [(), (0,), (0, 0), (1, 1), (0, 2), (1, 2), (0, 1, 2), [0, 1], (False, True), (0, True), (0, -1), None]
        wrong += [(0, None), (0, "1"), "01", {0: 1, 1: 0}, ([], {}), (BIG, 0), ((0,), (1,)), 1, ((0, 1),), (0, 1, 0)]
        for thing in wrong:
            self.assertIs(told_of(renamed_atom, FIELD, KIND, thing), NoRenaming, thing)
            self.assertIs(told_of(renamed_row, FIELD, ROW, thing), NoRenaming, thing)
        self.assertIs(told_of(renamed_row, WIDE, (), (0, 1)), NoRenaming)
        self.assertIs(told_of(renamed_row, LONE, (), (0, 1)), NoRenaming)
        self.assertIs(told_of(renamed_row, LONE, (), (False,)), NoRenaming)

    def test_anything(self):
        for thing in any_things():
            is_right = repr(thing) in ("(0, 1)", "(1, 0)")
            self.assertIs(told_of(renamed_row, FIELD, ROW, thing) is NoRenaming, not is_right, thing)
            self.assertIs(told_of(renamed_atom, FIELD, KIND, thing) is NoRenaming, not is_right, thing)
        for thing in spoilt((2, 0, 1), any_things()):
            told = told_of(renamed_atom, WIDE, LIKES, thing)
            self.assertIs(told is NoRenaming, repr(thing) not in map(repr, renamings(3)), thing)


class TestLeastAndAlike(unittest.TestCase):

    def test_least(self):
        self.assertEqual(least_row(FIELD, (("kind", (1,)),)), (("kind", (0,)),))
        self.assertEqual(least_row(FIELD, ROW), (("kind", (0,)), ("likes", (1, 0))))
        self.assertEqual(least_row(FIELD, ()), ())
        self.assertEqual(least_row(WIDE, (("likes", (2, 1)),)), (("likes", (0, 1)),))
        self.assertEqual(least_row(WIDE, (("likes", (1, 1)), ("likes", (2, 1)))), (("likes", (0, 0)), ("likes", (1, 0))))

    def test_kinds(self):
        self.assertEqual(kinds_of(FIELD, (("kind", (1,)),)), ((("kind", (0,)),), (("kind", (1,)),)))
        self.assertEqual(kinds_of(FIELD, (("kind", (0,)), ("kind", (1,)))), ((("kind", (0,)), ("kind", (1,))),))
        self.assertEqual(kinds_of(FIELD, ()), ((),))
        told = tuple((("likes", pair),) for pair in itertools.permutations(range(3), 2))
        self.assertEqual(kinds_of(WIDE, (("likes", (2, 0)),)), told)
        self.assertEqual(kinds_of(LONE, (("kind", (0,)),)), ((("kind", (0,)),),))
        self.assertEqual(len(kinds_of(FLAT, (("kind", (0,)), ("wise", (1,))))), 6)

    def test_each_once_as_rows_stand(self):
        for field in FIELDS:
            for row in some_rows(field):
                every = {plain_renamed(field, row, renaming) for renaming in renamings(field[2])}
                key = lambda one: [place_of(field, atom) for atom in one]
                told = kinds_of(field, row)
                self.assertEqual(told, tuple(sorted(every, key=key)))
                self.assertEqual(least_row(field, row), told[0])

    def test_alike(self):
        for field in FIELDS:
            rows = some_rows(field)[::5] + [(), atoms_of(field)]
            for row in rows:
                every = {plain_renamed(field, row, renaming) for renaming in renamings(field[2])}
                for other in rows + list(every):
                    self.assertIs(are_alike(field, row, other), other in every)

    def test_alike_of_no_row(self):
        self.assertIs(are_alike(FIELD, (KIND,), (("kind", (0,)),)), True)
        for thing in (KIND, [("kind", (0,))], (("kind", (False,)),), (("kind", (True,)),), (KIND, KIND), None, "kind"):
            self.assertIs(are_alike(FIELD, (KIND,), thing), False, thing)

    def test_anything(self):
        for thing in any_things():
            self.assertIs(told_of(are_alike, FIELD, (LIKES,), thing), repr(thing) == repr((LIKES,)), thing)
            self.assertIs(told_of(are_alike, FIELD, (), thing), repr(thing) == "()", thing)


class TestRefusals(unittest.TestCase):

    def test_fields_go_first(self):
        for thing in any_things():
            if thing is FIELD:
                continue
            for call in (renamed_atom, renamed_row, are_alike):
                self.assertIs(told_of(call, thing, ROW, (0, 1)), NoField, thing)
                self.assertIs(told_of(call, thing, thing, thing), NoField, thing)
            for call in (least_row, kinds_of):
                self.assertIs(told_of(call, thing, ROW), NoField, thing)
                self.assertIs(told_of(call, thing, thing), NoField, thing)

    def test_then_atoms_and_rows(self):
        for thing in any_things():
            if not is_row(FIELD, thing):
                self.assertIs(told_of(renamed_row, FIELD, thing, (0, 1)), NoRow, thing)
                self.assertIs(told_of(renamed_row, FIELD, thing, thing), NoRow, thing)
                self.assertIs(told_of(are_alike, FIELD, thing, ROW), NoRow, thing)
                self.assertIs(told_of(are_alike, FIELD, thing, thing), NoRow, thing)
                self.assertIs(told_of(least_row, FIELD, thing), NoRow, thing)
                self.assertIs(told_of(kinds_of, FIELD, thing), NoRow, thing)
            if repr(thing) != repr(LIKES):
                self.assertIs(told_of(renamed_atom, FIELD, thing, (0, 1)), NoAtom, thing)
                self.assertIs(told_of(renamed_atom, FIELD, thing, None), NoAtom, thing)

    def test_wrong_rows(self):
        for row in ((LIKES, KIND), (KIND, KIND), [KIND], (("kind", (True,)),), (("kind", (2,)),)):
            for call in (least_row, kinds_of):
                self.assertIs(told_of(call, FIELD, row), NoRow, row)
            self.assertIs(told_of(renamed_row, FIELD, row, (0, 1)), NoRow, row)

    def test_the_same_again(self):
        for call in (least_row, kinds_of):
            self.assertEqual(call(WIDE, (LIKES,)), call(WIDE, (LIKES,)))
        self.assertEqual(row_of(WIDE, (LIKES,)), row_of(WIDE, (LIKES,)))
        self.assertIs(are_alike(WIDE, (LIKES,), (LIKES,)), are_alike(WIDE, (LIKES,), (LIKES,)))


if __name__ == "__main__":
    unittest.main()
