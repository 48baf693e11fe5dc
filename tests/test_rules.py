"""Rules: which they are, how they stand, what they become, where they hold, and which covers which."""

import itertools
import unittest

from lorestead.errors import NoField, NoRenaming, NoRule, NoWorld
from lorestead.fields.fields import atoms_of, is_field
from lorestead.fields.renamings import renamed_row, renamings
from lorestead.rules.rules import break_of, covers, holds_in, is_rule, is_rule_ahead, least_rule, renamed_rule
from tests import plain
from tests.things import (
    CHAIN, DEEP, FIELD, LONE, MORE_FIELDS, WIDE, any_things, check_anything, check_refusals, spoilt, told_of,
)

KIND, OTHER, LIKES, BACK = ("kind", (0,)), ("kind", (1,)), ("likes", (0, 1)), ("likes", (1, 0))
# Whoever is liked by one of the kind is of the kind.
RULE = ((KIND, LIKES), (OTHER,))
WORLD = (3, (("kind", (0,)), ("likes", (0, 1)), ("likes", (1, 2))))
SPOILERS = (None, True, False, 0, 1, 2, "", "kind", (), [], {}, (0,), ([],), ({},), (True,), KIND, (KIND,))


def never(thing):
    """No thing of any kind is a world or a rule, for none has ties or thens."""
    return False


def is_renaming(thing):
    return repr(thing) in ("(0, 1)", "(1, 0)")


class TestIsRule(unittest.TestCase):

    def test_ordinary_ones(self):
        for rule in (RULE, ((), (KIND,)), ((KIND,), (KIND,)), ((LIKES,), ((CHAIN, (0, 1)), KIND))):
            self.assertIs(is_rule(FIELD, rule), True)
        for field in MORE_FIELDS:
            for rule in plain.some_rules(field, 60):
                self.assertIs(is_rule(field, rule), True)
                shown = all(atom[0] in field[1] for row in rule for atom in row)
                self.assertIs(is_rule(field, rule, shown=True), shown)
            for rule in plain.some_rules(field, 20, shown=True):
                self.assertIs(is_rule(field, rule, shown=True), True)

    def test_shown_where_all_atoms_are(self):
        self.assertIs(is_rule(FIELD, ((KIND,), (OTHER,)), shown=True), True)
        self.assertIs(is_rule(FIELD, ((KIND, LIKES), (OTHER,)), shown=True), False)
        self.assertIs(is_rule(FIELD, ((KIND,), (LIKES,)), shown=True), False)

    def test_how_many_ifs_and_thens(self):
        atoms = atoms_of(DEEP)
        for many in range(23):
            self.assertIs(is_rule(DEEP, (atoms[:many], atoms[5:6])), many <= 20)
            self.assertIs(is_rule(DEEP, (atoms[-1:], atoms[7:7 + many])), 1 <= many <= 20)
        self.assertIs(is_rule(DEEP, (atoms[:20], atoms[-20:])), True)
        self.assertIs(is_rule(DEEP, (atoms[:21], atoms[-20:])), False)
        self.assertIs(is_rule(DEEP, (atoms[:20], atoms[-21:])), False)
        self.assertIs(is_rule(DEEP, (atoms, atoms)), False)

    def test_thens_are_not_empty(self):
        self.assertIs(is_rule(FIELD, ((KIND,), ())), False)
        self.assertIs(is_rule(FIELD, ((), ())), False)

    def test_rows_rise(self):
        self.assertIs(is_rule(FIELD, ((LIKES, KIND), (OTHER,))), False)
        self.assertIs(is_rule(FIELD, ((OTHER,), (LIKES, KIND))), False)
        self.assertIs(is_rule(FIELD, ((KIND, KIND), (OTHER,))), False)
        self.assertIs(is_rule(FIELD, ((OTHER,), (KIND, KIND))), False)
        for shown in (False, True):
            self.assertIs(is_rule(FIELD, ((OTHER, KIND), (KIND,)), shown=shown), False)

    def test_wrong_forms(self):
        wrong = [list(RULE), RULE[:1], RULE + (), RULE + ((),), (list(RULE[0]), RULE[1]), (RULE[0], list(RULE[1]))]
        wrong += [((KIND,), KIND), (KIND, (KIND,)), ((KIND,), None), (None, (KIND,)), ((("kind", (True,)),), (KIND,))]
        wrong += [((KIND,), (("kind", (False,)),)), ((("kind", (2,)),), (KIND,)), ((("other", (0,)),), (KIND,))]
        for thing in wrong:
            self.assertIs(told_of(is_rule, FIELD, thing), thing == RULE, thing)
        self.assertIs(is_rule(WIDE, RULE), False)

    def test_anything(self):
        check_anything(self, is_rule, FIELD)
        check_anything(self, is_rule, FIELD, shown=True)
        for thing in any_things():
            self.assertIs(told_of(is_rule, FIELD, thing), False, thing)
        rows = [repr(row) for many in (0, 1, 2, 3) for row in itertools.combinations(atoms_of(FIELD), many)]
        for thing in spoilt(RULE, SPOILERS):
            is_pair = isinstance(thing, tuple) and len(thing) == 2
            right = is_pair and all(repr(row) in rows for row in thing) and thing[1] != ()
            self.assertIs(told_of(is_rule, FIELD, thing), right, thing)
        check_refusals(self, is_rule, [(FIELD, NoField, is_field), (RULE, None, None)])


class TestRenamedRules(unittest.TestCase):

    def test_renamed(self):
        self.assertEqual(renamed_rule(FIELD, RULE, (1, 0)), ((OTHER, BACK), (KIND,)))
        self.assertEqual(renamed_rule(FIELD, RULE, (0, 1)), RULE)
        for field in MORE_FIELDS:
            for rule in plain.some_rules(field, 25, ifs=6, thens=4):
                for renaming in renamings(field[2]):
                    ifs, thens = [renamed_row(field, row, renaming) for row in rule]
                    self.assertEqual(renamed_rule(field, rule, renaming), (ifs, thens))

    def test_least(self):
        self.assertEqual(least_rule(FIELD, ((OTHER, BACK), (KIND,))), RULE)
        self.assertEqual(least_rule(FIELD, RULE), RULE)
        self.assertEqual(least_rule(FIELD, ((), (OTHER,))), ((), (KIND,)))
        # The ifs go first, though the thens stand the other way round.
        self.assertEqual(least_rule(FIELD, ((OTHER,), (KIND,))), ((KIND,), (OTHER,)))
        for field in MORE_FIELDS:
            for rule in plain.some_rules(field, 25, ifs=6, thens=4):
                alike = [renamed_rule(field, rule, renaming) for renaming in renamings(field[2])]
                least = min(alike, key=lambda other: plain.rule_key(field, other))
                for other in alike:
                    self.assertEqual(least_rule(field, other), least)

    def test_refusals(self):
        check_refusals(self, renamed_rule, [
            (FIELD, NoField, is_field), (RULE, NoRule, never), ((1, 0), NoRenaming, is_renaming),
        ])
        check_refusals(self, least_rule, [(FIELD, NoField, is_field), (RULE, NoRule, never)])
        for wrong in ((0, 0), (0,), (0, 1, 2), (True, 0), [1, 0], (1, 2)):
            self.assertIs(told_of(renamed_rule, FIELD, RULE, wrong), NoRenaming)
        for wrong in (((KIND,), ()), ((LIKES, KIND), (OTHER,)), list(RULE)):
            self.assertIs(told_of(renamed_rule, FIELD, wrong, (1, 0)), NoRule)
            self.assertIs(told_of(least_rule, FIELD, wrong), NoRule)


class TestAhead(unittest.TestCase):

    def test_ifs_then_thens_by_numbers(self):
        for field in MORE_FIELDS:
            rules = plain.some_rules(field, 40) + [(row, (atoms_of(field)[0],)) for row in ((), atoms_of(field)[:2])]
            keys = [plain.rule_key(field, rule) for rule in rules]
            for one, key in zip(rules, keys):
                for other, other_key in zip(rules, keys):
                    self.assertIs(is_rule_ahead(field, one, other), key < other_key)

    def test_same_ifs(self):
        self.assertIs(is_rule_ahead(FIELD, ((KIND,), (KIND,)), ((KIND,), (KIND, OTHER))), True)
        self.assertIs(is_rule_ahead(FIELD, ((KIND,), (KIND, OTHER)), ((KIND,), (KIND,))), False)
        self.assertIs(is_rule_ahead(FIELD, ((KIND,), (LIKES,)), ((KIND,), (OTHER,))), False)
        self.assertIs(is_rule_ahead(FIELD, ((KIND,), (LIKES,)), ((KIND, LIKES), (KIND,))), True)

    def test_by_numbers_and_not_as_python_sorts(self):
        self.assertIs(is_rule_ahead(FIELD, (((CHAIN, (1, 1)),), (KIND,)), ((KIND,), (KIND,))), True)
        self.assertIs(is_rule_ahead(FIELD, ((KIND,), (KIND,)), (((CHAIN, (1, 1)),), (KIND,))), False)

    def test_of_itself_and_of_no_rule(self):
        self.assertIs(is_rule_ahead(FIELD, RULE, RULE), False)
        check_anything(self, is_rule_ahead, FIELD, ((), (KIND,)))
        for thing in any_things():
            self.assertIs(told_of(is_rule_ahead, FIELD, ((), (KIND,)), thing), False)
        for thing in spoilt(RULE, SPOILERS):
            right = told_of(is_rule, FIELD, thing) and thing != ((), (KIND,))
            first = right and plain.rule_key(FIELD, ((), (KIND,))) < plain.rule_key(FIELD, thing)
            self.assertIs(told_of(is_rule_ahead, FIELD, ((), (KIND,)), thing), first, thing)
        check_refusals(self, is_rule_ahead, [(FIELD, NoField, is_field), (RULE, NoRule, never), (RULE, None, None)])


class TestHolds(unittest.TestCase):

    def test_the_first_way(self):
        # 0 is of the kind and likes 1, which isn't.
        self.assertEqual(break_of(FIELD, WORLD, RULE), (0, 1))
        self.assertIs(holds_in(FIELD, WORLD, RULE), False)
        self.assertEqual(break_of(FIELD, WORLD, ((LIKES,), (KIND,))), (1, 2))
        self.assertEqual(break_of(FIELD, WORLD, ((BACK,), (OTHER,))), (2, 1))

    def test_none(self):
        rule = ((LIKES, BACK), (KIND,))
        self.assertIsNone(break_of(FIELD, WORLD, rule))
        self.assertIs(holds_in(FIELD, WORLD, rule), True)

    def test_unknowns_stand_for_unlike_things(self):
        world = (2, (("likes", (0, 0)), ("likes", (1, 1))))
        self.assertIs(holds_in(FIELD, world, ((LIKES,), (KIND, BACK))), True)
        self.assertIs(holds_in(FIELD, world, ((("likes", (0, 0)),), (LIKES,))), False)

    def test_fewer_things_than_unknowns(self):
        self.assertIs(holds_in(FIELD, (1, (("likes", (0, 0)),)), ((), (KIND,))), True)
        self.assertIsNone(break_of(FIELD, (1, ()), ((), (KIND,))))
        self.assertIsNone(break_of(WIDE, (2, ()), ((), (("likes", (0, 1)),))))
        self.assertEqual(break_of(LONE, (1, ()), ((), (KIND,))), (0,))

    def test_ifs_that_are_empty(self):
        self.assertEqual(break_of(FIELD, WORLD, ((), (KIND,))), (1, 0))
        self.assertEqual(break_of(FIELD, (2, ()), ((), (KIND,))), (0, 1))
        full = (2, tuple(plain.all_ties(FIELD, 2)))
        self.assertIs(holds_in(FIELD, full, ((), atoms_of(FIELD))), True)

    def test_many(self):
        for field in MORE_FIELDS:
            broken = 0
            for world in plain.some_worlds(field, 25, seed=6):
                for rule in plain.some_rules(field, 15, seed=world):
                    way = plain.break_of(field, world, rule)
                    broken += way is not None
                    self.assertEqual(break_of(field, world, rule), way)
                    self.assertIs(holds_in(field, world, rule), way is None)
            self.assertGreater(broken, 30)

    def test_refusals(self):
        for call in (holds_in, break_of):
            check_refusals(self, call, [
                (FIELD, NoField, is_field), (WORLD, NoWorld, never), (RULE, NoRule, never),
            ])


class TestCovers(unittest.TestCase):

    def test_fewer_ifs_or_more_thens(self):
        self.assertEqual(covers(FIELD, ((KIND,), (OTHER,)), RULE), (0, 1))
        self.assertEqual(covers(FIELD, ((KIND, LIKES), (OTHER, BACK)), RULE), (0, 1))
        self.assertIsNone(covers(FIELD, RULE, ((KIND,), (OTHER,))))
        self.assertIsNone(covers(FIELD, RULE, ((KIND, LIKES), (OTHER, BACK))))

    def test_the_first_renaming(self):
        self.assertEqual(covers(FIELD, ((OTHER,), (KIND,)), RULE), (1, 0))
        # Both renamings do.
        self.assertEqual(covers(FIELD, ((), (KIND, OTHER)), RULE), (0, 1))
        row = (("likes", (0, 1)), ("likes", (1, 2)))
        self.assertEqual(covers(WIDE, ((row[1],), (row[0],)), ((row[0],), (("likes", (2, 0)),))), (2, 0, 1))

    def test_itself_and_alike(self):
        for field in MORE_FIELDS:
            for rule in plain.some_rules(field, 10):
                self.assertEqual(covers(field, rule, rule), renamings(field[2])[0])
                for renaming in renamings(field[2]):
                    self.assertIsNotNone(covers(field, renamed_rule(field, rule, renaming), rule))

    def test_thens_that_are_ifs_of_the_other(self):
        # All thens of the other are its own ifs, so just the ifs count.
        self.assertEqual(covers(FIELD, ((), (LIKES,)), ((KIND,), (KIND,))), (0, 1))
        self.assertIsNone(covers(FIELD, ((OTHER, LIKES), (LIKES,)), ((KIND,), (KIND,))))
        self.assertEqual(covers(FIELD, ((KIND,), (OTHER,)), ((KIND, LIKES), (OTHER, LIKES))), (0, 1))
        # Thens of the one that are its own ifs aren't lost.
        self.assertEqual(covers(FIELD, ((KIND,), (KIND, OTHER)), ((KIND,), (KIND, OTHER))), (0, 1))

    def test_many(self):
        for field in MORE_FIELDS:
            rules = plain.some_rules(field, 20, ifs=2, thens=3)
            rules += [(rule[0][:1], rule[1]) for rule in rules[:5]]
            for one, other in itertools.product(rules, repeat=2):
                told = None
                for renaming in reversed(renamings(field[2])):
                    ifs, thens = renamed_rule(field, one, renaming)
                    if set(ifs) <= set(other[0]) and set(other[1]) <= set(other[0]) | set(thens):
                        told = renaming
                self.assertEqual(covers(field, one, other), told)

    def test_refusals(self):
        check_refusals(self, covers, [(FIELD, NoField, is_field), (RULE, NoRule, never), (RULE, NoRule, never)])


if __name__ == "__main__":
    unittest.main()
