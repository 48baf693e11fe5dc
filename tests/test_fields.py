"""Fields, their terms, atoms, shown atoms, and the two bounds."""

import unittest

from lorestead.errors import NoAtom, NoField
from lorestead.fields import fields
from lorestead.fields.fields import atoms_of, is_atom, is_field, place_of, terms_of
from lorestead.fields.terms import term_text
from tests.things import BIG, CHAIN, FIELD, FIELDS, FLAT, LONE, NOTIONS, WIDE, any_things, spoilt, told_of

PAIRS = (("likes", 2), ("knows", 2), ("kind", 1))
# Nine terms of two places, all of whose parts are of two.
LARGE = (
    "chain", ("both", ("not", "likes"), ("turned", "likes")), ("either", ("not", "knows"), ("turned", "knows")),
)


class TestFields(unittest.TestCase):

    def test_bounds_are_told(self):
        self.assertEqual((fields.MOST_SHOWN, fields.MOST_ATOMS), (10, 40))

    def test_right_ones(self):
        for field in FIELDS:
            self.assertIs(is_field(field), True)

    def test_how_many_shown_terms(self):
        terms = ("kind", ("not", "kind"), ("some", "likes"), "likes", CHAIN)
        for many in (1, 2, 3, 4):
            self.assertIs(is_field((NOTIONS, terms[:many], 1)), True)
        self.assertIs(is_field((NOTIONS, (), 1)), False)
        self.assertIs(is_field((NOTIONS, terms, 1)), False)

    def test_shown_terms_are_unlike(self):
        self.assertIs(is_field((NOTIONS, ("kind", "kind"), 1)), False)
        self.assertIs(is_field((NOTIONS, (CHAIN, "kind", CHAIN), 1)), False)

    def test_shown_terms_are_terms(self):
        for thing in ("other", "chain", ("both", "likes", "kind"), ["not", "kind"], (("not", "kind"),), None, 1):
            self.assertIs(is_field((NOTIONS, ("kind", thing), 1)), False, thing)
        self.assertIs(is_field((NOTIONS, ["kind"], 1)), False)
        self.assertIs(is_field((NOTIONS, "kind", 1)), False)
        self.assertIs(is_field((NOTIONS, (("not", ("not", ("not", "kind"))),), 1)), True)
        self.assertIs(is_field((NOTIONS, (("not", ("not", ("not", ("not", "kind")))),), 1)), False)

    def test_many(self):
        for many in (1, 2, 3):
            self.assertIs(is_field((NOTIONS, ("kind",), many)), True)
        for many in (0, 4, -1, BIG, True, False, None, "1", (1,), [2]):
            self.assertIs(is_field((NOTIONS, ("kind",), many)), False, many)

    def test_just_ten_shown_atoms(self):
        just = (PAIRS, ("likes", "knows", "kind"), 2)
        self.assertIs(is_field(just), True)
        self.assertEqual(len(atoms_of(just, shown=True)), 10)
        self.assertIs(is_field((PAIRS, ("likes", "kind", ("not", "kind"), ("some", "likes")), 2)), True)
        self.assertIs(is_field((PAIRS, ("likes",), 3)), True)
        self.assertIs(is_field((PAIRS, ("kind", ("not", "kind"), ("some", "likes")), 3)), True)

    def test_just_over_ten_shown_atoms(self):
        self.assertIs(is_field((PAIRS, ("likes", "knows", "kind", ("not", "kind")), 2)), False)
        self.assertIs(is_field((PAIRS, ("likes", "knows", ("not", "likes")), 2)), False)
        self.assertIs(is_field((PAIRS, ("likes", "kind"), 3)), False)
        self.assertIs(is_field((PAIRS, ("kind", ("not", "kind"), ("some", "likes"), ("some", "knows")), 3)), False)

    def test_just_forty_atoms(self):
        just = (PAIRS, (LARGE, ("not", "kind")), 2)
        self.assertIs(is_field(just), True)
        self.assertEqual(len(atoms_of(just)), 40)
        nearly = ((("likes", 2), ("kind", 1)), (("turned", ("not", ("turned", "likes"))),), 3)
        self.assertIs(is_field(nearly), True)
        self.assertEqual(len(atoms_of(nearly)), 39)

    def test_just_over_forty_atoms(self):
        self.assertIs(is_field((PAIRS, (LARGE, ("not", ("not", "kind"))), 2)), False)
        self.assertIs(is_field((PAIRS, (LARGE, ("not", "kind"), ("some", "likes")), 2)), False)
        self.assertIs(is_field((PAIRS, (("some", ("not", ("turned", "likes"))),), 3)), False)
        self.assertIs(is_field((PAIRS, (LARGE, ("not", "kind"), ("some", "likes")), 1)), True)

    def test_tuples_alone(self):
        for wrong in (list(FIELD), FIELD[:2], FIELD + (2,), (list(NOTIONS), ("kind",), 1), (((),), ("kind",), 1), ()):
            self.assertIs(is_field(wrong), False)

    def test_anything(self):
        for thing in any_things():
            self.assertIs(told_of(is_field, thing), thing is FIELD, thing)

    def test_spoilt_ones(self):
        spoilers = (None, True, 0, BIG, "", "not", (), [], {}, ["kind"], {"a": ()}, ([],), ({},))
        for thing in spoilt(FIELD, spoilers):
            self.assertIn(told_of(is_field, thing), (True, False), thing)
            self.assertIs(told_of(terms_of, thing) is NoField, not is_field(thing), thing)


class TestTermsAndAtoms(unittest.TestCase):

    def test_terms(self):
        self.assertEqual(terms_of(FIELD), (CHAIN, "kind", "likes"))
        self.assertEqual(terms_of(WIDE), ("likes",))
        self.assertEqual(terms_of(LONE), ("kind", "likes", ("not", "likes")))

    def test_names_of_notions_that_no_shown_term_has(self):
        self.assertEqual(terms_of((NOTIONS, (("not", "kind"),), 1)), ("kind", "likes", ("not", "kind")))

    def test_parts_of_shown_terms_each_once(self):
        term = ("both", ("some", "likes"), ("not", ("some", "likes")))
        told = terms_of((NOTIONS, (term, "kind", ("some", "likes")), 1))
        self.assertEqual(told, (term, "kind", "likes", ("not", ("some", "likes")), ("some", "likes")))

    def test_atoms(self):
        pairs = ((0, 0), (0, 1), (1, 0), (1, 1))
        chains = tuple((CHAIN, pair) for pair in pairs)
        kinds = (("kind", (0,)), ("kind", (1,)))
        self.assertEqual(atoms_of(FIELD), chains + kinds + tuple(("likes", pair) for pair in pairs))
        self.assertEqual(atoms_of(FIELD, shown=False), atoms_of(FIELD))
        self.assertEqual(atoms_of(FIELD, shown=True), chains + kinds)

    def test_shown_ones_by_texts_whatever_their_order_in_the_field(self):
        turned = (NOTIONS, ("kind", CHAIN), 2)
        self.assertEqual(atoms_of(turned, shown=True), atoms_of(FIELD, shown=True))
        self.assertEqual(atoms_of(LONE, shown=True), (("kind", (0,)), (("not", "likes"), (0, 0))))

    def test_atoms_of_three_unknowns(self):
        rows = [(one, other) for one in range(3) for other in range(3)]
        self.assertEqual(atoms_of(WIDE), tuple(("likes", row) for row in rows))
        self.assertEqual(atoms_of(FLAT)[:3], (("kind", (0,)), ("kind", (1,)), ("kind", (2,))))

    def test_they_rise_by_texts_then_unknowns(self):
        for field in FIELDS:
            for shown in (False, True):
                keys = [(term_text(field[0], term), row) for term, row in atoms_of(field, shown=shown)]
                self.assertEqual(keys, sorted(set(keys)))

    def test_is_atom(self):
        for field in FIELDS:
            shown = atoms_of(field, shown=True)
            for atom in atoms_of(field):
                self.assertIs(is_atom(field, atom), True)
                self.assertIs(is_atom(field, atom, shown=True), atom in shown)
            self.assertEqual([atom for atom in atoms_of(field) if atom[0] in field[1]], list(shown))

    def test_what_is_no_atom(self):
        wrong = [("likes", (0,)), ("likes", (0, 2)), ("likes", (0, -1)), ("likes", (0, 1, 1)), ("likes", ()), "likes"]
        wrong += [("kind", (0, 0)), ("kind", 0), ("kind", (2,)), (("not", "kind"), (0,)), ("other", (0,)), ("kind",)]
        wrong += [("likes", (0, True)), ("likes", (False, False)), ("kind", (True,)), ("kind", (None,)), ("kind", ("0",))]
        wrong += [["kind", (0,)], ("kind", [0]), (list(CHAIN), (0, 0)), ("kind", (0,), (0,)), ("kind", (BIG,)), ()]
        wrong += [({}, (0,)), ("kind", {}), ("kind", ({},)), ([], ([],)), ("kind", ((0,),)), (("kind",), (0,))]
        for thing in wrong:
            self.assertIs(is_atom(FIELD, thing), False, thing)
            self.assertIs(is_atom(FIELD, thing, shown=True), False, thing)
            self.assertIs(told_of(place_of, FIELD, thing), NoAtom, thing)

    def test_anything_as_an_atom(self):
        for thing in any_things():
            is_right = thing == ("likes", (0, 1)) and repr(thing) == "('likes', (0, 1))"
            self.assertIs(told_of(is_atom, FIELD, thing), is_right, thing)
            self.assertIs(told_of(is_atom, FIELD, thing, shown=True), False, thing)
            self.assertIs(told_of(place_of, FIELD, thing) is NoAtom, not is_right, thing)

    def test_spoilt_atoms(self):
        spoilers = (None, True, False, 0, 1, 2, BIG, "", "kind", (), [], {}, (0,), ({},), ([],))
        for atom in atoms_of(FIELD):
            for thing in spoilt(atom, spoilers):
                is_right = repr(thing) in [repr(known) for known in atoms_of(FIELD)]
                self.assertIs(told_of(is_atom, FIELD, thing), is_right, thing)

    def test_places(self):
        for field in FIELDS:
            self.assertEqual([place_of(field, atom) for atom in atoms_of(field)], list(range(len(atoms_of(field)))))
        self.assertEqual(place_of(FIELD, ("kind", (1,))), 5)
        self.assertEqual(place_of(LONE, (("not", "likes"), (0, 0))), 2)


class TestRefusals(unittest.TestCase):

    def test_fields_go_first(self):
        for thing in any_things():
            if thing is FIELD:
                continue
            for call in (terms_of, atoms_of):
                self.assertIs(told_of(call, thing), NoField, thing)
            self.assertIs(told_of(atoms_of, thing, shown=True), NoField, thing)
            self.assertIs(told_of(is_atom, thing, ("kind", (0,))), NoField, thing)
            self.assertIs(told_of(is_atom, thing, thing, shown=True), NoField, thing)
            self.assertIs(told_of(place_of, thing, thing), NoField, thing)

    def test_too_many_atoms_are_refused(self):
        self.assertIs(told_of(terms_of, (PAIRS, ("likes", "kind"), 3)), NoField)
        self.assertIs(told_of(atoms_of, (PAIRS, (LARGE, ("not", ("not", "kind"))), 2)), NoField)

    def test_the_same_again(self):
        for field in FIELDS:
            self.assertEqual(terms_of(field), terms_of(field))
            self.assertEqual(atoms_of(field), atoms_of(field))


if __name__ == "__main__":
    unittest.main()
