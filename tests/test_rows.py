"""Rows of atoms, situations, and how rows stand."""

import itertools
import unittest

from lorestead.errors import NoAtom, NoField, NoRow
from lorestead.fields.fields import atoms_of, place_of
from lorestead.fields.renamings import is_ahead, is_row, row_of
from tests.things import BIG, CHAIN, FIELD, FIELDS, LONE, WIDE, any_things, spoilt, told_of

ATOMS = atoms_of(FIELD)
SHOWN = atoms_of(FIELD, shown=True)
KIND, LIKES = ("kind", (1,)), ("likes", (0, 1))


class TestRows(unittest.TestCase):

    def test_rising_rows(self):
        for many in range(4):
            for row in itertools.combinations(ATOMS, many):
                self.assertIs(is_row(FIELD, row), True)
                self.assertIs(is_row(FIELD, row, shown=True), all(atom in SHOWN for atom in row))
        for field in FIELDS:
            self.assertIs(is_row(field, atoms_of(field)), True)
            self.assertIs(is_row(field, atoms_of(field, shown=True), shown=True), True)

    def test_none(self):
        self.assertIs(is_row(FIELD, ()), True)
        self.assertIs(is_row(FIELD, (), shown=True), True)
        self.assertIs(is_row(FIELD, []), False)
        self.assertIs(is_row(FIELD, None), False)

    def test_exchanged_and_doubled(self):
        for row in itertools.permutations(ATOMS[2:7], 3):
            self.assertIs(is_row(FIELD, row), [place_of(FIELD, atom) for atom in row] == sorted(map(ATOMS.index, row)))
        for atom in ATOMS:
            self.assertIs(is_row(FIELD, (atom,)), True)
            self.assertIs(is_row(FIELD, (atom, atom)), False)
        self.assertIs(is_row(FIELD, (ATOMS[0], ATOMS[1], ATOMS[1], ATOMS[2])), False)
        self.assertIs(is_row(FIELD, (ATOMS[0], ATOMS[1], ATOMS[0])), False)

    def test_situations(self):
        self.assertIs(is_row(FIELD, (KIND, LIKES)), True)
        self.assertIs(is_row(FIELD, (KIND, LIKES), shown=True), False)
        self.assertIs(is_row(FIELD, ((CHAIN, (0, 0)), KIND), shown=True), True)
        self.assertIs(is_row(FIELD, (KIND, (CHAIN, (0, 0))), shown=True), False)

    def test_what_is_no_row(self):
        wrong = [[KIND], KIND, [KIND, LIKES], (list(KIND),), (("kind", [1]),), (("kind", (True,)),), (("kind", (2,)),)]
        wrong += [(None,), ((),), (KIND, ()), (KIND, None), (KIND, {}), ({},), ([],), {}, {KIND: LIKES}, "kind 1", 0]
        wrong += [(("likes", (False, True)),), (("other", (0,)),), ((("not", "kind"), (0,)),)]
        for thing in wrong:
            self.assertIs(told_of(is_row, FIELD, thing), False, thing)
            self.assertIs(told_of(is_row, FIELD, thing, shown=True), False, thing)

    def test_anything(self):
        right = ["()", repr((LIKES,)), repr((("kind", (0,)), ("kind", (1,))))]
        for thing in any_things():
            self.assertIs(told_of(is_row, FIELD, thing), repr(thing) in right, thing)
            shown = repr(thing) in (right[0], right[2])
            self.assertIs(told_of(is_row, FIELD, thing, shown=True), shown, thing)

    def test_spoilt_rows(self):
        spoilers = (None, True, 0, 1, BIG, "kind", (), [], {}, KIND, ({},))
        for thing in spoilt((KIND, LIKES), spoilers):
            places = [place for place, atom in enumerate(ATOMS) if repr(atom) in map(repr, list(thing or ()))] \
                if isinstance(thing, tuple) else None
            is_right = places is not None and repr(thing) == repr(tuple(ATOMS[place] for place in places))
            self.assertIs(told_of(is_row, FIELD, thing), is_right, thing)


class TestRowOf(unittest.TestCase):

    def test_any_order(self):
        for some in itertools.combinations(ATOMS, 3):
            for mixed in itertools.permutations(some):
                self.assertEqual(row_of(FIELD, mixed), some)

    def test_more_than_once(self):
        self.assertEqual(row_of(FIELD, (LIKES, KIND, LIKES, KIND, KIND)), (KIND, LIKES))
        self.assertEqual(row_of(FIELD, ATOMS[::-1] * 3), ATOMS)

    def test_none(self):
        self.assertEqual(row_of(FIELD, ()), ())

    def test_no_tuple(self):
        for thing in any_things():
            if not isinstance(thing, tuple):
                self.assertIs(told_of(row_of, FIELD, thing), NoRow, thing)
        self.assertIs(told_of(row_of, FIELD, [KIND]), NoRow)
        self.assertIs(told_of(row_of, FIELD, [None]), NoRow)

    def test_no_atom(self):
        wrong = (None, (), [], {}, list(KIND), ("kind", (2,)), ("kind", (True,)), ("likes", (0,)), (KIND,), "kind")
        for thing in wrong:
            for atoms in ((thing,), (KIND, thing), (thing, KIND), (KIND, thing, LIKES)):
                self.assertIs(told_of(row_of, FIELD, atoms), NoAtom, atoms)
        self.assertIs(told_of(row_of, FIELD, KIND), NoAtom)

    def test_anything(self):
        for thing in any_things():
            told = told_of(row_of, FIELD, thing)
            if isinstance(told, type):
                self.assertIn(told, (NoAtom, NoRow), thing)
            else:
                self.assertIs(is_row(FIELD, told), True)

    def test_fields_go_first(self):
        for thing in any_things():
            if thing is not FIELD:
                self.assertIs(told_of(row_of, thing, (KIND,)), NoField, thing)
                self.assertIs(told_of(row_of, thing, thing), NoField, thing)


class TestAhead(unittest.TestCase):

    def test_by_the_numbers_of_atoms(self):
        for field in (FIELD, LONE):
            atoms = atoms_of(field)[-6:]
            rows = [row for many in range(4) for row in itertools.combinations(atoms, many)]
            keys = [tuple(place_of(field, atom) for atom in row) for row in rows]
            for row, key in zip(rows, keys):
                for other, other_key in zip(rows, keys):
                    self.assertIs(is_ahead(field, row, other), key < other_key)

    def test_numbers_and_not_python_order_of_the_atoms(self):
        # A term that is a tuple can't be sorted beside a name, so atoms stand by their terms' texts.
        self.assertIs(is_ahead(FIELD, ((CHAIN, (1, 1)),), (("kind", (0,)),)), True)
        self.assertIs(is_ahead(FIELD, (("kind", (0,)),), ((CHAIN, (1, 1)),)), False)
        self.assertIs(is_ahead(WIDE, (("likes", (0, 2)),), (("likes", (1, 0)),)), True)

    def test_a_beginning(self):
        row = (ATOMS[2], ATOMS[5], ATOMS[8])
        for many in range(3):
            self.assertIs(is_ahead(FIELD, row[:many], row), True)
            self.assertIs(is_ahead(FIELD, row, row[:many]), False)

    def test_itself(self):
        for row in ((), (KIND,), (KIND, LIKES), ATOMS):
            self.assertIs(is_ahead(FIELD, row, row), False)

    def test_of_no_row(self):
        for thing in ((KIND, KIND), (LIKES, KIND), [LIKES], None, (None,), "likes", LIKES, (("kind", (True,)),)):
            self.assertIs(is_ahead(FIELD, (), thing), False)

    def test_anything(self):
        for thing in any_things():
            ahead = told_of(is_row, FIELD, thing) and thing != ()
            self.assertIs(told_of(is_ahead, FIELD, (), thing), ahead, thing)

    def test_refusals(self):
        for thing in any_things():
            if not is_row(FIELD, thing):
                self.assertIs(told_of(is_ahead, FIELD, thing, (KIND,)), NoRow, thing)
                self.assertIs(told_of(is_ahead, FIELD, thing, thing), NoRow, thing)
            if thing is not FIELD:
                self.assertIs(told_of(is_ahead, thing, (KIND,), (LIKES,)), NoField, thing)
                self.assertIs(told_of(is_ahead, thing, thing, thing), NoField, thing)
                self.assertIs(told_of(is_row, thing, ()), NoField, thing)
                self.assertIs(told_of(is_row, thing, thing, shown=True), NoField, thing)


if __name__ == "__main__":
    unittest.main()
