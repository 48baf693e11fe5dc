"""Walks and open rules, what shows them, thinned walks and rounds."""

import itertools
import unittest

from lorestead.errors import NoField, NoRule, NoWalk
from lorestead.fields.fields import atoms_of, is_field
from lorestead.rules.rules import holds_in
from lorestead.theories.giving import given_of
from lorestead.theories.walks import rounds_of, shows_walk, thinned_walk, walk_to
from tests import plain
from tests.things import (
    BIG, CHAIN, DEEP, FIELD, MORE_FIELDS, WIDE, any_things, check_anything, check_refusals, spoilt, told_of,
)

KIND, OTHER, LIKES, BACK = ("kind", (0,)), ("kind", (1,)), ("likes", (0, 1)), ("likes", (1, 0))
SELF, ITSELF = ("likes", (0, 0)), ("likes", (1, 1))
RULE = ((KIND, LIKES), (OTHER,))
# Kinds go along likes; whoever is of the kind likes back.
RULES = (RULE, ((OTHER, LIKES), (BACK,)))
ASKED = ((KIND, LIKES), (BACK,))
WALK = (("rule", 0, (0, 1), OTHER), ("rule", 1, (0, 1), BACK))
ROUND = (("term", (CHAIN, (0, 0))),)
# Not and what it denies.
DENIED = ((("wise", 1), ("near", 2)), ("wise", ("not", "wise"), ("turned", "near")), 2)


def never(thing):
    return False


def is_rules(thing):
    return thing == ()


def asked_of(field, many, seed=0):
    """Pairs of rules and a rule, of which some are walked and some are open."""
    told = []
    for at, rule in enumerate(plain.some_rules(field, many, ifs=4, seed=seed)):
        told.append((tuple(plain.some_rules(field, at % 6, ifs=2, seed=(seed, at))), rule))
    return told


def all_steps(field, rules):
    """All steps of right forms there are."""
    steps = [("term", atom) for atom in atoms_of(field)]
    for number in range(len(rules)):
        for renaming in plain.renamings(field):
            steps += [("rule", number, renaming, atom) for atom in atoms_of(field)]
    return steps


class TestWalkTo(unittest.TestCase):

    def test_walked(self):
        self.assertEqual(walk_to(FIELD, RULES, ASKED), ("walked", WALK))
        self.assertEqual(walk_to(FIELD, RULES, ((OTHER, BACK), (LIKES,)))[0], "walked")
        self.assertEqual(walk_to(FIELD, (), ((LIKES, BACK), ((CHAIN, (0, 0)),))), ("walked", ROUND))
        self.assertEqual(walk_to(FIELD, (((), (OTHER,)),), ((), (KIND,)))[1], (("rule", 0, (1, 0), KIND),))

    def test_open(self):
        self.assertEqual(walk_to(FIELD, (RULE,), ASKED), ("open", (KIND, OTHER, LIKES)))
        self.assertEqual(walk_to(FIELD, (), ((), (KIND,))), ("open", ()))
        told = walk_to(FIELD, RULES, ((LIKES, ITSELF), (KIND,)))
        self.assertEqual(told, ("open", given_of(FIELD, (LIKES, ITSELF), rules=RULES)))

    def test_thens_that_are_ifs(self):
        for rules in ((), RULES):
            self.assertEqual(walk_to(FIELD, rules, ((KIND, LIKES), (KIND,))), ("walked", ()))
            self.assertEqual(walk_to(FIELD, rules, (atoms_of(FIELD), atoms_of(FIELD)[:1])), ("walked", ()))

    def test_by_what_cannot_be(self):
        told = walk_to(DENIED, (((("wise", (0,)),), ((("not", "wise"), (0,)),)),), ((("wise", (1,)),), (("near", (0, 1)),)))
        self.assertEqual(told[0], "walked")
        steps = (("rule", 0, (1, 0), (("not", "wise"), (1,))), ("term", ("near", (0, 1))))
        self.assertEqual(told[1], steps)

    def test_many(self):
        words = {"walked": 0, "open": 0}
        for field in MORE_FIELDS:
            for rules, rule in asked_of(field, 40):
                told = walk_to(field, rules, rule)
                words[told[0]] += 1
                given = plain.given_of(field, rule[0], rules)[0]
                self.assertEqual(told[0] == "walked", set(rule[1]) <= set(given))
                if told[0] == "walked":
                    self.assertIs(plain.is_walk(field, rules, rule, told[1]), True)
                else:
                    self.assertEqual(told[1], given)
                self.assertIs(shows_walk(field, rules, rule, told), True)
        self.assertGreater(min(words.values()), 20)

    def test_walked_holds_where_the_rules_hold(self):
        held = 0
        for world in plain.some_worlds(FIELD, 120, most=4, seed=1):
            for rules, rule in asked_of(FIELD, 20, seed=1):
                if walk_to(FIELD, rules, rule)[0] == "walked":
                    if all(holds_in(FIELD, world, other) for other in rules):
                        held += 1
                        self.assertIs(holds_in(FIELD, world, rule), True)
        self.assertGreater(held, 100)

    def test_refusals(self):
        for call in (walk_to, rounds_of):
            check_refusals(self, call, [(FIELD, NoField, is_field), (RULES, NoRule, is_rules), (ASKED, NoRule, never)])
            for thing in (list(RULES), RULE, (RULE, None), RULES * 151, ((OTHER, KIND), (KIND,))):
                self.assertIs(told_of(call, FIELD, thing, ASKED), NoRule)
            self.assertIsNot(told_of(call, FIELD, RULES * 150, ASKED), NoRule)


class TestShowsWalk(unittest.TestCase):

    def shows(self, walk, rules=RULES, rule=ASKED):
        return shows_walk(FIELD, rules, rule, ("walked", walk))

    def test_right_ones(self):
        self.assertIs(self.shows(WALK), True)
        # Steps more that are right ones, and what stands already.
        more = ("rule", 0, (0, 1), OTHER)
        self.assertIs(self.shows((more,) + WALK), True)
        self.assertIs(self.shows(WALK + (more,)), True)
        self.assertIs(self.shows(WALK + (("term", (CHAIN, (1, 1))), ("term", (CHAIN, (1, 1))))), True)
        self.assertIs(self.shows((), rule=((KIND,), (KIND,))), True)
        self.assertIs(self.shows((), rules=(), rule=((KIND,), (KIND,))), True)

    def test_rules_that_tell_more(self):
        rules = (((KIND,), (KIND, OTHER, LIKES)),)
        for atom in (KIND, OTHER, LIKES):
            walk = (("rule", 0, (0, 1), atom), ("rule", 0, (0, 1), OTHER))
            self.assertIs(self.shows(walk, rules, ((KIND,), (OTHER,))), True)
        self.assertIs(self.shows((("rule", 0, (0, 1), BACK), ("rule", 0, (0, 1), OTHER)), rules, ((KIND,), (OTHER,))), False)

    def test_wrong_in_any_part(self):
        first, last = WALK
        wrong = [("rule", 1, (0, 1), OTHER), ("rule", 2, (0, 1), OTHER), ("rule", -2, (0, 1), OTHER)]
        wrong += [("rule", -1, (0, 1), OTHER), ("term", None), ("term", list(OTHER)), ("term", ("kind", (True,)))]
        wrong += [("rule", False, (0, 1), OTHER), ("rule", None, (0, 1), OTHER), ("rule", "0", (0, 1), OTHER)]
        wrong += [("rule", BIG, (0, 1), OTHER), ("rule", 0, (1, 0), OTHER), ("rule", 0, (0, 0), OTHER)]
        wrong += [("rule", 0, (False, True), OTHER), ("rule", 0, [0, 1], OTHER), ("rule", 0, (0, 1), KIND)]
        wrong += [("rule", 0, (0, 1), BACK), ("rule", 0, (0, 1), ("kind", (True,))), ("rule", 0, (0, 1), list(OTHER))]
        wrong += [("term", OTHER), ("rule", OTHER), ("term", 0, (0, 1), OTHER), ("rule", 0, (0, 1)), list(first), ()]
        wrong += [first + (0,), ("Rule", 0, (0, 1), OTHER), None, "term", ("term",), ("rule", 0, (0, 1), None)]
        wrong += [("rule", 0, (0, 1, 2), OTHER), ("rule", 0, (0,), OTHER), ([], 0, (0, 1), OTHER), ({}, OTHER)]
        for step in wrong:
            self.assertIs(told_of(shows_walk, FIELD, RULES, ASKED, ("walked", (step, last))), False, step)
            self.assertIs(told_of(shows_walk, FIELD, RULES, ASKED, ("walked", WALK + (step,))), self.may(step), step)

    def may(self, step):
        """Whether the step may be taken behind the walk."""
        return repr(step) in [repr(other) for other in (("rule", 1, (0, 1), BACK), ("rule", 0, (1, 0), KIND))]

    def test_wrong_steps_by_terms(self):
        rule = ((LIKES, BACK), ((CHAIN, (0, 0)),))
        right = set()
        spoilers = (None, True, False, 0, 1, BIG, "", "rule", (), [], {}, (0,), (True, False), ([],), OTHER, (CHAIN, (1, 1)))
        for thing in spoilt(("walked", ROUND), spoilers):
            told = told_of(shows_walk, FIELD, (), rule, thing)
            self.assertIn(told, (True, False), thing)
            if told:
                right.add(repr(thing))
        self.assertEqual(right, {repr(("walked", ROUND)), repr(("walked", ROUND * 2))})
        for step in (("rule", (CHAIN, (0, 0))), ("Term", (CHAIN, (0, 0))), (None, (CHAIN, (0, 0))), ([], (CHAIN, (0, 0)))):
            self.assertIs(shows_walk(FIELD, RULES, rule, ("walked", (step,))), False)

    def test_numbers_of_rules(self):
        # Python counts -1 from the end, and takes False and True for 0 and 1.
        for number in (-1, -2, False, True, 2):
            step = ("rule", number, (0, 1), BACK)
            self.assertIs(self.shows((WALK[0], step)), False)
            self.assertIs(self.shows((("rule", number, (0, 1), OTHER), WALK[1])), False)

    def test_a_step_too_early_and_one_too_few(self):
        self.assertIs(self.shows(WALK[::-1]), False)
        self.assertIs(self.shows(WALK[:1]), False)
        self.assertIs(self.shows(WALK[1:]), False)
        self.assertIs(self.shows(()), False)
        self.assertIs(self.shows(list(WALK)), False)

    def test_all_steps(self):
        for field, rules, ifs in ((FIELD, RULES, (KIND, LIKES)), (DENIED, (), (("near", (0, 0)), ("wise", (1,))))):
            for step in all_steps(field, rules):
                rule = (ifs, (ifs[0],))
                told = shows_walk(field, rules, rule, ("walked", (step,)))
                self.assertIs(told, plain.is_walk(field, rules, rule, (step,)), step)
        told = [step for step in all_steps(FIELD, RULES) if self.shows((step,), rule=((KIND, LIKES), (KIND,)))]
        self.assertEqual(told, [("rule", 0, (0, 1), OTHER)])

    def test_many_pairs_of_steps(self):
        rules = RULES + (((), (LIKES,)),)
        for steps in itertools.islice(itertools.product(all_steps(FIELD, rules), repeat=2), 0, None, 7):
            rule = ((KIND, SELF), (KIND,))
            told = shows_walk(FIELD, rules, rule, ("walked", steps))
            self.assertIs(told, plain.is_walk(FIELD, rules, rule, steps), steps)

    def test_what_denies_itself_tells_all(self):
        wise, unwise = ("wise", (0,)), (("not", "wise"), (0,))
        for atom in atoms_of(DENIED):
            walk = (("term", atom),)
            self.assertIs(shows_walk(DENIED, (), ((unwise, wise), (atom,)), ("walked", walk)), True)
            self.assertIs(shows_walk(DENIED, (), ((wise,), (wise,)), ("walked", walk)), False)

    def test_open_rows(self):
        rows = [row for many in range(6) for row in itertools.combinations(atoms_of(FIELD), many)]
        for rules, rule in (((RULE,), ASKED), ((), ((KIND,), (OTHER,))), (RULES, ASKED)):
            found = 0
            for row in rows:
                due = set(rule[0]) <= set(row) and not set(rule[1]) <= set(row)
                due = due and plain.given_of(FIELD, row, rules)[0] == row
                found += due
                self.assertIs(shows_walk(FIELD, rules, rule, ("open", row)), due)
            self.assertEqual(found > 0, rules != RULES)
        wrong = [[KIND, OTHER, LIKES], (OTHER, KIND, LIKES), (KIND, KIND), None, KIND, (("kind", (False,)),), (None,)]
        for row in wrong:
            self.assertIs(told_of(shows_walk, FIELD, (RULE,), ASKED, ("open", row)), False)
        for word in ("Open", "opened", "stands", "walked", "", None, ("open",), ["open"]):
            self.assertIs(told_of(shows_walk, FIELD, (RULE,), ASKED, (word, (KIND, OTHER, LIKES))), False)
        self.assertIs(shows_walk(FIELD, (RULE,), ASKED, ("open", (KIND, OTHER, LIKES))), True)

    def test_anything(self):
        check_anything(self, shows_walk, FIELD, RULES, ASKED)
        for thing in any_things():
            self.assertIs(told_of(shows_walk, FIELD, RULES, ASKED, thing), False)
            self.assertIs(told_of(shows_walk, FIELD, RULES, ASKED, ("walked", thing)), False, thing)
            self.assertIs(told_of(shows_walk, FIELD, RULES, ASKED, (thing, WALK)), False, thing)
            self.assertIs(told_of(shows_walk, FIELD, RULES, ASKED, ("walked", (thing,))), False, thing)
        told = ("walked", WALK)
        for thing in (list(told), told + ((),), told[:1], WALK, ("open", WALK), ("Walked", WALK), (WALK, "walked")):
            self.assertIs(told_of(shows_walk, FIELD, RULES, ASKED, thing), False)

    def test_spoilt_ones(self):
        spoilers = (None, True, False, 0, 1, 2, BIG, "", "kind", "term", (), [], {}, (0,), ([],), ({},), (1, 0), (True, False))
        right = set()
        for thing in spoilt(("walked", WALK), spoilers):
            told = told_of(shows_walk, FIELD, RULES, ASKED, thing)
            self.assertIn(told, (True, False), thing)
            if told:
                right.add(repr(thing))
        # The walk, and each of its two steps twice.
        walks = (WALK, WALK[:1] + WALK, WALK + WALK[1:])
        self.assertEqual(right, {repr(("walked", walk)) for walk in walks})

    def test_refusals(self):
        check_refusals(self, shows_walk, [
            (FIELD, NoField, is_field), (RULES, NoRule, is_rules), (ASKED, NoRule, never), (None, None, None),
        ])


class TestThinned(unittest.TestCase):

    def test_nothing_to_spare(self):
        self.assertEqual(thinned_walk(FIELD, RULES, ASKED, WALK), WALK)
        self.assertEqual(thinned_walk(FIELD, (), ((KIND,), (KIND,)), ()), ())

    def test_steps_to_spare(self):
        spare = ("rule", 0, (1, 0), KIND)
        for walk in (WALK + (spare,), WALK[:1] + (WALK[0],) + WALK[1:], WALK + WALK):
            self.assertIs(shows_walk(FIELD, RULES, ASKED, ("walked", walk)), True)
            self.assertEqual(thinned_walk(FIELD, RULES, ASKED, walk), WALK)
        first = (("term", (CHAIN, (0, 0))),)
        rule = ((KIND, SELF, LIKES), (BACK,))
        for walk in (first + WALK, WALK[:1] + first + WALK[1:], WALK + first, first * 3 + WALK + first):
            self.assertEqual(thinned_walk(FIELD, RULES, rule, walk), WALK)

    def test_from_the_last_on(self):
        # Either would do, and the last is left out first.
        rules = (((KIND,), (OTHER,)), ((KIND,), (OTHER, LIKES)))
        one, other = ("rule", 0, (0, 1), OTHER), ("rule", 1, (0, 1), OTHER)
        for walk in ((one, other), (other, one)):
            self.assertEqual(thinned_walk(FIELD, rules, ((KIND,), (OTHER,)), walk), walk[:1])

    def test_steps_on_which_spare_ones_rested(self):
        rules = (((KIND,), (OTHER,)), ((OTHER,), (LIKES,)), ((KIND,), (LIKES,)))
        walk = (("rule", 0, (0, 1), OTHER), ("rule", 2, (0, 1), LIKES), ("rule", 1, (0, 1), LIKES))
        self.assertEqual(thinned_walk(FIELD, rules, ((KIND,), (LIKES,)), walk), walk[1:2])
        turned = (walk[0], walk[2], walk[1])
        self.assertEqual(thinned_walk(FIELD, rules, ((KIND,), (LIKES,)), turned), turned[:2])

    def test_all_that_is_given_can_be_left_out(self):
        walk = (("rule", 0, (0, 1), OTHER),)
        self.assertEqual(thinned_walk(FIELD, RULES, ((KIND, LIKES), (KIND,)), walk), ())

    def test_many(self):
        for field in MORE_FIELDS:
            for rules, rule in asked_of(field, 25, seed=2):
                told = walk_to(field, rules, rule)
                if told[0] == "open":
                    continue
                # Steps that may be taken right behind the ifs are spare, or spare others.
                more = [step for step in all_steps(field, rules)[::11] if plain.is_walk(field, rules, (rule[0], ()), (step,))]
                walk = tuple(more[:5]) + told[1] + tuple(more[5:9])
                left = list(walk)
                for at in reversed(range(len(walk))):
                    if plain.is_walk(field, rules, rule, left[:at] + left[at + 1:]):
                        del left[at]
                self.assertEqual(thinned_walk(field, rules, rule, walk), tuple(left))
                self.assertIs(shows_walk(field, rules, rule, ("walked", tuple(left))), True)

    def test_a_long_one(self):
        walk = WALK * 200
        self.assertEqual(thinned_walk(FIELD, RULES, ASKED, walk), WALK)

    def test_refusals(self):
        check_refusals(self, thinned_walk, [
            (FIELD, NoField, is_field), (RULES, NoRule, is_rules), (ASKED, NoRule, never), (WALK, NoWalk, never),
        ])
        for wrong in (WALK[::-1], WALK[:1], list(WALK), ("walked", WALK), WALK + (("term", KIND),)):
            self.assertIs(told_of(thinned_walk, FIELD, RULES, ASKED, wrong), NoWalk)
        self.assertIs(told_of(thinned_walk, FIELD, (RULE,), ASKED, ()), NoWalk)


class TestRounds(unittest.TestCase):

    def test_none_one_and_more(self):
        self.assertEqual(rounds_of(FIELD, RULES, ((KIND,), (KIND,))), 0)
        self.assertEqual(rounds_of(FIELD, RULES, RULE), 1)
        self.assertEqual(rounds_of(FIELD, RULES, ASKED), 2)
        self.assertEqual(rounds_of(FIELD, RULES[::-1], ASKED), 2)
        self.assertEqual(rounds_of(FIELD, RULES, ((KIND, LIKES), ((CHAIN, (0, 0)),))), 3)
        self.assertEqual(rounds_of(FIELD, (), ((LIKES, BACK), ((CHAIN, (0, 0)),))), 1)

    def test_open_ones(self):
        self.assertIsNone(rounds_of(FIELD, (RULE,), ASKED))
        self.assertIsNone(rounds_of(FIELD, (), ((), (KIND,))))

    def test_all_at_once(self):
        # Both thens come in the same round, in whatever order the rules stand.
        rules = (((KIND,), (OTHER,)), ((OTHER,), (LIKES,)), ((LIKES,), (BACK,)), ((BACK,), (SELF,)))
        rule = ((KIND,), (SELF,))
        self.assertEqual({rounds_of(FIELD, order, rule) for order in itertools.permutations(rules)}, {2})

    def test_many(self):
        most = 0
        for field in MORE_FIELDS:
            for rules, rule in asked_of(field, 40, seed=3):
                rows = plain.given_of(field, rule[0], rules)[1]
                due = [at for at, row in enumerate(rows) if set(rule[1]) <= set(row)]
                told = rounds_of(field, rules, rule)
                self.assertEqual(told, due[0] if due else None)
                most = max(most, told or 0)
        self.assertGreater(most, 1)

    def test_three_unknowns(self):
        row = (("likes", (0, 1)), ("likes", (1, 2)))
        rules = ((row, (("likes", (2, 0)),)), (row[:1], (("likes", (0, 0)),)))
        self.assertEqual(rounds_of(WIDE, rules, (row, (("likes", (2, 2)),))), 2)
        # A chain, and some of the chain, by term rows alone.
        chain = DEEP[1][0][1]
        ifs = (("likes", (0, 1)), (chain[2], (1, 2)))
        self.assertEqual(rounds_of(DEEP, (), (ifs, ((chain, (0, 2)),))), 1)
        self.assertEqual(rounds_of(DEEP, (), (ifs, ((DEEP[1][0], (0,)),))), 2)


if __name__ == "__main__":
    unittest.main()
