"""Fields of ten shown atoms and of forty in all, and things that are nearly fields, atoms or rows, asked about much."""

import itertools
import random
import unittest

from lorestead.errors import NoAtom, NoField, NoRow
from lorestead.fields.fields import atoms_of, is_atom, is_field, place_of, terms_of
from lorestead.fields.renamings import (
    are_alike, is_ahead, is_row, kinds_of, least_row, renamed_atom, renamed_row, renamings, row_of,
)
from lorestead.fields.terms import is_term, parts_of, places_of, term_text
from tests import plain
from tests.things import BIG, DEEP, MORE_FIELDS, spoilt, told_of

PAIRS = (("likes", 2), ("knows", 2), ("kind", 1))
LARGE = (
    "chain", ("both", ("not", "likes"), ("turned", "likes")), ("either", ("not", "knows"), ("turned", "knows")),
)
FORTY = (PAIRS, (LARGE, ("not", "kind")), 2)
TEN = (PAIRS, ("kind", ("chain", "likes", "knows"), ("turned", "likes")), 2)
LONG = (PAIRS, (LARGE, ("not", "kind"), ("some", "likes"), "knows"), 1)
BUSY = (FORTY, TEN, LONG, DEEP)
SPOILERS = (None, True, False, 0, 1, 2, -1, BIG, "", "not", "kind", (), [], {}, (0,), (True,), ([],), ({},), ["kind"])


def plain_terms(field):
    """All terms of the field by their texts, worked out by walking through them."""
    found = {name: name for name, _ in field[0]}

    def walk(term):
        parts = (term,) if isinstance(term, str) else (term[0],) + tuple(walk(part) for part in term[1:])
        found[" ".join(parts)] = term
        return " ".join(parts)

    for term in field[1]:
        walk(term)
    return [found[text] for text in sorted(found)]


def plain_atoms(field, shown):
    """All atoms of the field, or the shown ones, in order."""
    told = []
    for term in plain_terms(field):
        if not shown or term in field[1]:
            rows = itertools.product(range(field[2]), repeat=places_of(field[0], term))
            told += [(term, row) for row in rows]
    return tuple(told)


def some_rows(field, many):
    """So many rows of the field, of all lengths."""
    chance = random.Random(repr((field, many)))
    atoms = atoms_of(field)
    rows = [(), atoms]
    while len(rows) < many:
        numbers = chance.sample(range(len(atoms)), chance.randint(1, len(atoms)))
        rows.append(tuple(atoms[number] for number in sorted(numbers)))
    return rows


class TestBusyFields(unittest.TestCase):

    def test_how_many_atoms(self):
        self.assertEqual(len(atoms_of(FORTY)), 40)
        self.assertEqual(len(atoms_of(TEN, shown=True)), 10)
        self.assertEqual(len(atoms_of(DEEP)), 36)

    def test_terms_and_atoms(self):
        for field in BUSY + MORE_FIELDS:
            self.assertIs(is_field(field), True)
            self.assertEqual(list(terms_of(field)), plain_terms(field))
            for shown in (False, True):
                self.assertEqual(atoms_of(field, shown=shown), plain_atoms(field, shown))
            for number, atom in enumerate(plain_atoms(field, False)):
                self.assertEqual(place_of(field, atom), number)
                self.assertIs(is_atom(field, atom), True)
                self.assertIs(is_atom(field, atom, shown=True), atom[0] in field[1])
            for term in terms_of(field):
                self.assertIs(is_term(field[0], term), True)
                self.assertIn(term, parts_of(field[0], term))
                self.assertEqual(term_text(field[0], term).count(" ") > 0, isinstance(term, tuple))

    def test_texts_are_no_terms(self):
        for field in BUSY:
            for term in field[1]:
                if isinstance(term, tuple):
                    text = term_text(field[0], term)
                    self.assertIs(is_term(field[0], text), False)
                    self.assertIs(is_field((field[0], (term, text), 1)), False)
                    self.assertIs(is_term(field[0], ("not", text)), False)
                    self.assertIs(told_of(is_atom, field, (text, (0,))), False)

    def test_nearly_fields(self):
        for field in (FORTY, TEN, DEEP):
            wrong = 0
            for thing in spoilt(field, SPOILERS):
                told = told_of(is_field, thing)
                self.assertIn(told, (True, False), thing)
                self.assertIs(told_of(atoms_of, thing) is NoField, not told)
                self.assertIs(told_of(place_of, thing, ("kind", (0,))) is NoField, not told)
                wrong += not told
            self.assertGreater(wrong, 200)

    def test_nearly_atoms(self):
        for field in BUSY:
            known = {repr(atom): number for number, atom in enumerate(atoms_of(field))}
            for atom in atoms_of(field)[::5]:
                for thing in spoilt(atom, SPOILERS):
                    self.assertIs(told_of(is_atom, field, thing), repr(thing) in known, thing)
                    self.assertEqual(told_of(place_of, field, thing), known.get(repr(thing), NoAtom), thing)


class TestBusyRows(unittest.TestCase):

    def test_renamed_and_kinds(self):
        for field in BUSY:
            for row in some_rows(field, 25):
                every = [plain.renamed(field, row, renaming) for renaming in renamings(field[2])]
                self.assertEqual([renamed_row(field, row, renaming) for renaming in renamings(field[2])], every)
                kinds = sorted(set(every), key=lambda other: plain.places(field, other))
                self.assertEqual(list(kinds_of(field, row)), kinds)
                self.assertEqual(least_row(field, row), kinds[0])
                for other in every:
                    self.assertIs(are_alike(field, row, other), True)
                for atom in row[:4]:
                    for renaming in renamings(field[2]):
                        told = (renamed_atom(field, atom, renaming),)
                        self.assertEqual(told, plain.renamed(field, (atom,), renaming))

    def test_order(self):
        for field in BUSY:
            rows = some_rows(field, 25)
            for one, other in itertools.product(rows, repeat=2):
                ahead = plain.places(field, one) < plain.places(field, other)
                self.assertIs(is_ahead(field, one, other), ahead)
                self.assertIs(are_alike(field, one, other), other in kinds_of(field, one))

    def test_rows_of_atoms_in_any_order(self):
        chance = random.Random(7)
        for field in BUSY:
            for row in some_rows(field, 20):
                mixed = list(row) * 2
                chance.shuffle(mixed)
                self.assertEqual(row_of(field, tuple(mixed)), row)
                self.assertIs(is_row(field, tuple(mixed)), mixed == [])
                self.assertIs(told_of(row_of, field, mixed), NoRow)
                self.assertIs(told_of(row_of, field, tuple(mixed) + (None,)), NoAtom)

    def test_nearly_rows(self):
        for field in (FORTY, TEN):
            row = atoms_of(field)[3::9]
            known = {repr(other) for other in itertools.chain.from_iterable(
                itertools.combinations(atoms_of(field), many) for many in range(3))}
            for thing in spoilt(row, SPOILERS):
                told = told_of(is_row, field, thing)
                self.assertIs(told_of(kinds_of, field, thing) is NoRow, not told, thing)
                self.assertIs(told_of(is_ahead, field, thing, row) is NoRow, not told, thing)
                if isinstance(thing, tuple) and len(thing) < 3:
                    self.assertIs(told, repr(thing) in known, thing)
            for at in range(len(row)):
                term, unknowns = row[at]
                truths = tuple(bool(unknown) for unknown in unknowns)
                for wrong in ((term, truths), (term, list(unknowns)), [term, unknowns], (term, unknowns + (0,))):
                    self.assertIs(told_of(is_row, field, row[:at] + (wrong,) + row[at + 1:]), False)
                    self.assertIs(told_of(row_of, field, row[:at] + (wrong,) + row[at + 1:]), NoAtom)


if __name__ == "__main__":
    unittest.main()
