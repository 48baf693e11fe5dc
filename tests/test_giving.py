"""Term rows, what rules give of a row, and whole situations."""

import unittest

from lorestead.errors import NoField, NoRow, NoRule
from lorestead.fields.fields import atoms_of, is_field
from lorestead.fields.renamings import is_row, renamed_row, renamings
from lorestead.rules.rules import holds_in
from lorestead.theories.giving import given_of, is_whole, told_by_terms
from lorestead.worlds.ways import atoms_by, situations_of, ways_of
from tests import plain
from tests.things import (
    CHAIN, DEEP, FIELD, MORE_FIELDS, WIDE, any_things, check_anything, check_refusals, spoilt, told_of,
)

KIND, OTHER, LIKES, BACK = ("kind", (0,)), ("kind", (1,)), ("likes", (0, 1)), ("likes", (1, 0))
RULE = ((KIND, LIKES), (OTHER,))
NOTIONS = (("near", 2), ("wise", 1))
NEAR, FAR = ("near", (0, 1)), ("near", (1, 0))
# A field for each word.
NOT = (NOTIONS, (("not", "near"), "wise"), 2)
BOTH = (NOTIONS, (("both", "near", ("turned", "near")), "wise"), 2)
EITHER = (NOTIONS, (("either", "wise", ("some", "near")),), 2)
TURNED = (NOTIONS, (("turned", "near"), "wise"), 2)
LONG = (NOTIONS, (("chain", "near", ("not", "near")),), 3)
SOME = (NOTIONS, (("some", "near"), "wise"), 2)
WORDS = (NOT, BOTH, EITHER, TURNED, LONG, SOME)


def some_rows(field, many, seed=0):
    """So many rows of the field's atoms."""
    return [ifs for ifs, _ in plain.some_rules(field, many, ifs=7, seed=seed)]


def is_atoms_row(thing):
    return repr(thing) in ("()", "(('likes', (0, 1)),)", "(('kind', (0,)), ('kind', (1,)))")


class TestToldByTerms(unittest.TestCase):

    def test_not(self):
        rest = tuple(atom for atom in atoms_of(NOT) if atom not in (NEAR, (("not", "near"), (0, 1))))
        self.assertEqual(told_by_terms(NOT, (NEAR, (("not", "near"), (0, 1)))), rest)
        self.assertEqual(told_by_terms(NOT, (NEAR, (("not", "near"), (1, 0)))), ())
        self.assertEqual(told_by_terms(NOT, (NEAR,)), ())

    def test_both(self):
        turned = ("turned", "near")
        whole = ("both", "near", turned)
        self.assertEqual(told_by_terms(BOTH, ((whole, (0, 1)),)), (NEAR, (turned, (0, 1))))
        self.assertEqual(told_by_terms(BOTH, (FAR, (turned, (1, 0)))), ((whole, (1, 0)), NEAR, (turned, (0, 1))))
        self.assertNotIn((whole, (0, 1)), told_by_terms(BOTH, (NEAR,)))
        self.assertEqual(told_by_terms(BOTH, (NEAR, (turned, (0, 1))))[0], (whole, (0, 1)))

    def test_either(self):
        whole, some = ("either", "wise", ("some", "near")), ("some", "near")
        self.assertEqual(told_by_terms(EITHER, (("wise", (1,)),)), ((whole, (1,)),))
        self.assertEqual(told_by_terms(EITHER, ((some, (0,)),)), ((whole, (0,)),))
        self.assertEqual(told_by_terms(EITHER, ((whole, (0,)),)), ())
        # At once, so what comes by some alone is told, and not what comes by that.
        self.assertEqual(told_by_terms(EITHER, (NEAR,)), ((some, (0,)),))

    def test_turned(self):
        turned = ("turned", "near")
        self.assertEqual(told_by_terms(TURNED, (NEAR,)), ((turned, (1, 0)),))
        self.assertEqual(told_by_terms(TURNED, ((turned, (1, 0)),)), (NEAR,))
        self.assertEqual(told_by_terms(TURNED, (("near", (1, 1)),)), ((turned, (1, 1)),))
        self.assertEqual(told_by_terms(TURNED, (NEAR, (turned, (1, 0)))), ())

    def test_chain(self):
        chain, far = ("chain", "near", ("not", "near")), ("not", "near")
        self.assertEqual(told_by_terms(LONG, (NEAR, (far, (1, 2)))), ((chain, (0, 2)),))
        self.assertEqual(told_by_terms(LONG, (NEAR, (far, (1, 0)))), ((chain, (0, 0)),))
        self.assertEqual(told_by_terms(LONG, (NEAR, (far, (2, 1)))), ())
        self.assertEqual(told_by_terms(LONG, (("near", (2, 2)), (far, (2, 0)))), ((chain, (2, 0)),))
        self.assertEqual(told_by_terms(LONG, ((chain, (0, 2)),)), ())
        self.assertEqual(told_by_terms(FIELD, (("likes", (1, 1)),)), ((CHAIN, (1, 1)),))
        self.assertEqual(told_by_terms(FIELD, (LIKES, BACK)), ((CHAIN, (0, 0)), (CHAIN, (1, 1))))

    def test_some(self):
        some = ("some", "near")
        self.assertEqual(told_by_terms(SOME, (NEAR,)), ((some, (0,)),))
        self.assertEqual(told_by_terms(SOME, (("near", (1, 1)),)), ((some, (1,)),))
        self.assertEqual(told_by_terms(SOME, ((some, (0,)),)), ())

    def test_names_tell_nothing(self):
        for row in some_rows(WIDE, 20) + [atoms_of(WIDE)]:
            self.assertEqual(told_by_terms(WIDE, row), ())
        for field in MORE_FIELDS:
            self.assertEqual(told_by_terms(field, ()), ())
            self.assertEqual(told_by_terms(field, atoms_of(field)), ())

    def test_many_rows(self):
        for field in MORE_FIELDS + WORDS:
            for row in some_rows(field, 60):
                told = told_by_terms(field, row)
                self.assertEqual(told, plain.row_of(field, plain.told_by_terms(field, row) - set(row)))
                self.assertIs(is_row(field, told), True)

    def test_true_in_every_world(self):
        for field in MORE_FIELDS + WORDS:
            for world in plain.some_worlds(field, 10):
                for way in ways_of(field, world)[:6]:
                    row = atoms_by(field, world, way, shown=False)
                    self.assertEqual(told_by_terms(field, row), ())
                    self.assertEqual(given_of(field, row), row)

    def test_refusals(self):
        check_refusals(self, told_by_terms, [(FIELD, NoField, is_field), ((LIKES,), NoRow, is_atoms_row)])


class TestGiven(unittest.TestCase):

    def test_by_no_rules(self):
        self.assertEqual(given_of(FIELD, ()), ())
        self.assertEqual(given_of(FIELD, (LIKES, BACK)), ((CHAIN, (0, 0)), (CHAIN, (1, 1)), LIKES, BACK))
        self.assertEqual(given_of(FIELD, (LIKES, BACK), rules=()), given_of(FIELD, (LIKES, BACK)))
        whole = ("either", "wise", ("some", "near"))
        self.assertEqual(given_of(EITHER, (NEAR,)), ((whole, (0,)), NEAR, (("some", "near"), (0,))))

    def test_in_all_renamings(self):
        self.assertEqual(given_of(FIELD, (KIND, LIKES), rules=(RULE,)), (KIND, OTHER, LIKES))
        self.assertEqual(given_of(FIELD, (OTHER, BACK), rules=(RULE,)), (KIND, OTHER, BACK))
        row = (("likes", (0, 1)), ("likes", (1, 2)))
        told = given_of(WIDE, row, rules=((row, (("likes", (0, 2)),)),))
        self.assertEqual(told, (("likes", (0, 1)), ("likes", (0, 2)), ("likes", (1, 2))))
        # Unknowns of a rule stay unlike: a rule of three says nothing of two.
        self.assertEqual(given_of(WIDE, (LIKES, BACK), rules=((row, (("likes", (0, 2)),)),)), (LIKES, BACK))

    def test_by_what_others_gave(self):
        rules = (((("likes", (0, 0)),), (KIND,)), RULE, ((OTHER,), (BACK,)), ((KIND, OTHER), (("likes", (1, 1)),)))
        told = given_of(FIELD, (("likes", (0, 0)),), rules=rules)
        self.assertEqual(told, atoms_of(FIELD))
        self.assertEqual(given_of(FIELD, (("likes", (0, 0)),), rules=rules[::-1]), told)
        self.assertEqual(given_of(FIELD, (("likes", (0, 0)),), rules=rules[1:2]), ((CHAIN, (0, 0)), ("likes", (0, 0))))

    def test_rules_with_no_ifs(self):
        self.assertEqual(given_of(FIELD, (), rules=(((), (KIND,)),)), (KIND, OTHER))
        self.assertEqual(given_of(FIELD, (LIKES,), rules=(((), (KIND,)),)), (KIND, OTHER, LIKES))

    def test_all_atoms_by_what_cannot_be(self):
        self.assertEqual(given_of(NOT, (NEAR, (("not", "near"), (0, 1)))), atoms_of(NOT))
        rules = (((NEAR,), ((("not", "near"), (0, 1)),)),)
        self.assertEqual(given_of(NOT, (FAR,), rules=rules), atoms_of(NOT))

    def test_many(self):
        for field in MORE_FIELDS + WORDS:
            for at, row in enumerate(some_rows(field, 12, seed=1)):
                rules = tuple(plain.some_rules(field, at % 5, seed=at))
                told = given_of(field, row, rules=rules)
                self.assertEqual(told, plain.given_of(field, row, rules)[0])
                self.assertEqual(given_of(field, told, rules=rules), told)
                self.assertTrue(set(row) <= set(told))
                for renaming in renamings(field[2]):
                    turned = given_of(field, renamed_row(field, row, renaming), rules=rules)
                    self.assertEqual(turned, renamed_row(field, told, renaming))

    def test_holds_where_the_rules_hold(self):
        rules = (RULE, ((BACK,), (KIND, LIKES)))
        held = 0
        for world in plain.some_worlds(FIELD, 200, most=3):
            if all(holds_in(FIELD, world, rule) for rule in rules):
                held += 1
                for row in some_rows(FIELD, 10):
                    told = given_of(FIELD, row, rules=rules)
                    if len(told) <= 20 and told != ():
                        self.assertIs(holds_in(FIELD, world, (row, told)), True)
        self.assertGreater(held, 40)

    def test_three_hundred_rules(self):
        rules = tuple(plain.some_rules(DEEP, 300, ifs=2, thens=1, seed=2))
        self.assertEqual(given_of(DEEP, (), rules=rules), plain.given_of(DEEP, (), rules)[0])
        self.assertIs(told_of(given_of, DEEP, (), rules=rules + rules[:1]), NoRule)

    def test_refusals(self):
        check_refusals(self, given_of, [
            (FIELD, NoField, is_field), ((LIKES,), NoRow, is_atoms_row), ((RULE,), NoRule, lambda thing: thing == ()),
        ], ("rules",))
        for thing in ([RULE], RULE, (RULE, RULE[0]), (RULE, ((LIKES, KIND), (OTHER,))), ((RULE,),), None):
            self.assertIs(told_of(given_of, FIELD, (LIKES,), rules=thing), NoRule, thing)


class TestWhole(unittest.TestCase):

    def test_whole_and_others(self):
        for row in ((), (KIND,), ((CHAIN, (0, 1)),), atoms_of(FIELD, shown=True)):
            self.assertIs(is_whole(FIELD, row), True)
        three = (NOTIONS, ("near", ("turned", "near")), 2)
        self.assertIs(is_whole(three, (NEAR,)), False)
        self.assertIs(is_whole(three, (NEAR, (("turned", "near"), (1, 0)))), True)
        # By what is not shown: not likes of likes' own.
        denied = (NOTIONS, ("wise", ("not", "wise"), ("some", "near")), 2)
        self.assertIs(is_whole(denied, (("wise", (0,)), (("not", "wise"), (1,)))), False)
        self.assertIs(is_whole(denied, ((("not", "wise"), (1,)), ("wise", (0,)))), True)
        self.assertIs(is_whole(denied, ((("not", "wise"), (0,)), ("wise", (0,)))), False)
        self.assertIs(is_whole(denied, atoms_of(denied, shown=True)), True)

    def test_rows_that_are_not_shown(self):
        self.assertIs(is_whole(FIELD, (LIKES,)), False)
        self.assertIs(is_whole(FIELD, (KIND, LIKES)), False)
        self.assertIs(is_whole(FIELD, given_of(FIELD, (LIKES,))), False)

    def test_all_situations(self):
        for field in WORDS + (FIELD, DEEP):
            shown = atoms_of(field, shown=True)
            for row in plain.all_situations(field)[::3]:
                told = tuple(atom for atom in plain.given_of(field, row, ())[0] if atom in shown)
                self.assertIs(is_whole(field, row), told == row)

    def test_situations_of_worlds_are_whole(self):
        for field in MORE_FIELDS + WORDS:
            for world in plain.some_worlds(field, 8):
                for row in situations_of(field, world):
                    self.assertIs(is_whole(field, row), True)

    def test_anything(self):
        check_anything(self, is_whole, FIELD)
        for thing in any_things():
            right = repr(thing) in ("()", "(('kind', (0,)), ('kind', (1,)))")
            self.assertIs(told_of(is_whole, FIELD, thing), right, thing)
        for thing in spoilt((KIND, OTHER), (None, True, False, 0, 1, "kind", (), [], {}, (0,), (True,), ([],))):
            right = repr(thing) in [repr(row) for row in plain.all_situations(FIELD)]
            self.assertIs(told_of(is_whole, FIELD, thing), right, thing)
        check_refusals(self, is_whole, [(FIELD, NoField, is_field), ((KIND,), None, None)])


if __name__ == "__main__":
    unittest.main()
