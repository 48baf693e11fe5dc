"""Theories by rules, by worlds and by situations: closures, what is closed, which rules they have."""

import itertools
import unittest

from lorestead.errors import NoField, NoRule, NoSituation, NoTheory, NoWorld
from lorestead.fields.fields import atoms_of, is_field
from lorestead.fields.renamings import kinds_of, renamed_row, renamings
from lorestead.rules.rules import holds_in, renamed_rule
from lorestead.theories.giving import given_of, is_whole
from lorestead.theories.theories import Theory
from lorestead.worlds.worlds import is_world
from tests import plain
from tests.things import (
    BROAD, CHAIN, DEEP, FIELD, FLAT, LONE, MORE_FIELDS, NOTIONS, WIDE, WORDY, any_things, check_refusals, spoilt,
    told_of,
)

KIND, OTHER, LIKES, BACK = ("kind", (0,)), ("kind", (1,)), ("likes", (0, 1)), ("likes", (1, 0))
RULE = ((KIND,), (OTHER,))
HIDDEN = ((KIND, LIKES), (OTHER,))
WORLD = (3, (("kind", (0,)), ("likes", (0, 1)), ("likes", (1, 2))))
CHAINED = (CHAIN, (0, 1))
# Ten shown atoms.
TEN = ((("near", 2), ("likes", 2), ("kind", 1)), ("kind", ("chain", "near", "likes"), ("turned", "likes")), 2)
# Shown terms that tell of one another.
KNIT = (NOTIONS, ("likes", ("turned", "likes")), 2)
SHOWN = atoms_of(FIELD, shown=True)


def no_rules_or_theory(thing):
    return thing == ()


def is_no_told(thing):
    """Whether the thing may be handed in as worlds or situations."""
    return thing is None or thing == ()


def tellings(field, seed=0):
    """Some ways to tell a theory of the field, as keywords."""
    told = [{}, {"rules": ()}, {"worlds": ()}, {"situations": ()}]
    told += [{"rules": tuple(plain.some_rules(field, many, shown=many % 2 == 0, seed=seed))} for many in (1, 2, 3, 5)]
    told += [{"worlds": tuple(plain.some_worlds(field, many, seed=seed))} for many in (1, 2, 4)]
    whole = [row for row in plain.all_situations(field)[::5] if is_whole(field, row)]
    told += [{"situations": tuple(whole[seed:seed + many])} for many in (1, 3, 8)]
    return told


def plain_told(told):
    """What is told, as the plain closure takes it."""
    return told or {"rules": ()}


class TestClosures(unittest.TestCase):

    def test_by_rules(self):
        theory = Theory(FIELD, rules=(RULE,))
        self.assertEqual(theory.closure((KIND,)), (KIND, OTHER))
        self.assertEqual(theory.closure((OTHER,)), (KIND, OTHER))
        self.assertEqual(theory.closure((CHAINED,)), (CHAINED,))
        self.assertEqual(theory.closure(()), ())
        self.assertEqual(len(theory), 2 ** 5)
        # By rules that aren't shown, too.
        rules = ((((CHAIN, (0, 1)),), (LIKES,)), ((KIND, LIKES), (OTHER,)))
        self.assertEqual(Theory(FIELD, rules=rules).closure((CHAINED, KIND)), (CHAINED, KIND, OTHER))

    def test_by_no_rules(self):
        theory = Theory(KNIT)
        self.assertEqual(theory.closure((LIKES,)), (LIKES, (("turned", "likes"), (1, 0))))
        self.assertEqual(len(theory), 2 ** 4)
        self.assertEqual(len(Theory(FIELD)), 2 ** 6)

    def test_by_worlds(self):
        theory = Theory(FIELD, worlds=(WORLD,))
        # Situations with the chain alone: that of 0 and 2, where 0 is of the kind.
        self.assertEqual(theory.closure((CHAINED,)), (CHAINED, KIND))
        self.assertEqual(theory.closure((OTHER,)), (OTHER,))
        # None has both, so all.
        self.assertEqual(theory.closure((KIND, OTHER)), SHOWN)
        self.assertEqual(len(theory), 6)

    def test_by_no_worlds_and_by_worlds_without_ways(self):
        for told in ({"worlds": ()}, {"worlds": ((1, ()), (1, (("kind", (0,)),)))}, {"situations": ()}):
            theory = Theory(FIELD, **told)
            self.assertEqual(theory.closure(()), SHOWN)
            self.assertEqual(len(theory), 1)
            self.assertIs(theory.is_closed(SHOWN), True)
            self.assertIs(theory.has(((), (KIND,))), True)

    def test_by_situations(self):
        theory = Theory(FIELD, situations=((CHAINED, KIND), (OTHER,)))
        self.assertEqual(theory.closure((CHAINED,)), (CHAINED, KIND))
        self.assertEqual(theory.closure(((CHAIN, (1, 0)),)), ((CHAIN, (1, 0)), OTHER))
        self.assertEqual(theory.closure((KIND,)), (KIND,))
        self.assertEqual(theory.closure(()), ())
        # A situation that is in none.
        self.assertEqual(theory.closure((KIND, OTHER)), SHOWN)
        self.assertEqual(theory.closure(((CHAIN, (0, 0)),)), SHOWN)

    def test_many(self):
        for field in (FIELD, LONE, WORDY, FLAT, WIDE, BROAD):
            rows = plain.all_situations(field)
            for told in tellings(field):
                theory = Theory(field, **told)
                for row in rows[::len(rows) // 5 + 1]:
                    closure = theory.closure(row)
                    self.assertEqual(closure, plain.closure(field, row, **plain_told(told)))
                    self.assertEqual(theory.closure(closure), closure)
                    self.assertIs(theory.is_closed(row), row == closure)
                    self.assertIs(theory.is_closed(closure), True)
                    self.assertIs(is_whole(field, closure), True)
                    for renaming in renamings(field[2]):
                        turned = theory.closure(renamed_row(field, row, renaming))
                        self.assertEqual(turned, renamed_row(field, closure, renaming))

    def test_how_many_are_closed(self):
        for field in (FIELD, LONE, WORDY, KNIT):
            rows = plain.all_situations(field)
            for told in tellings(field, seed=1):
                theory = Theory(field, **told)
                many = sum(plain.closure(field, row, **plain_told(told)) == row for row in rows)
                self.assertEqual(len(theory), many)
                self.assertEqual(repr(theory), f"Theory({many} closed)")
                self.assertEqual(sum(theory.is_closed(row) for row in rows), many)

    def test_refusals(self):
        theory = Theory(FIELD, rules=(RULE,))
        for thing in any_things():
            right = repr(thing) in ("()", "(('kind', (0,)), ('kind', (1,)))")
            self.assertIs(told_of(theory.closure, thing) is NoSituation, not right, thing)
            self.assertIs(told_of(theory.is_closed, thing), right, thing)
        for wrong in ((LIKES,), (OTHER, KIND), (KIND, KIND), [KIND], (("kind", (True,)),), KIND):
            self.assertIs(told_of(theory.closure, wrong), NoSituation)
            self.assertIs(told_of(theory.is_closed, wrong), False)
        for thing in spoilt((KIND, OTHER), (None, True, False, 0, 1, "kind", (), [], {}, (0,), (True,), ([],))):
            right = repr(thing) in [repr(row) for row in plain.all_situations(FIELD)]
            self.assertIs(told_of(theory.closure, thing) is NoSituation, not right, thing)
            self.assertIs(told_of(theory.is_closed, thing), right and theory.closure(thing) == thing, thing)


class TestHas(unittest.TestCase):

    def test_by_rules(self):
        theory = Theory(FIELD, rules=(HIDDEN, ((CHAINED,), (LIKES,))))
        self.assertIs(theory.has(HIDDEN), True)
        self.assertIs(theory.has(renamed_rule(FIELD, HIDDEN, (1, 0))), True)
        self.assertIs(theory.has(((CHAINED, KIND), (OTHER,))), True)
        self.assertIs(theory.has(((CHAINED,), (OTHER,))), False)
        self.assertIs(theory.has(((LIKES, BACK), ((CHAIN, (0, 0)),))), True)
        self.assertIs(theory.has(((LIKES,), (BACK,))), False)
        self.assertIs(theory.has(((KIND,), (KIND,))), True)

    def test_by_worlds(self):
        theory = Theory(FIELD, worlds=(WORLD, (1, ())))
        self.assertIs(theory.has(((BACK,), (LIKES,))), False)
        # Nothing likes the one of the kind.
        self.assertIs(theory.has(((OTHER, LIKES), (KIND,))), True)
        self.assertIs(theory.has(((OTHER, BACK), (KIND,))), False)
        self.assertIs(theory.has(((OTHER, BACK), (LIKES,))), False)
        self.assertIs(theory.has(((KIND, OTHER), (LIKES,))), True)
        self.assertIs(theory.has(((KIND,), (LIKES,))), False)
        self.assertIs(theory.has(((CHAINED,), (KIND,))), True)

    def test_by_situations(self):
        theory = Theory(FIELD, situations=((CHAINED, KIND), (OTHER,)))
        self.assertIs(theory.has(((CHAINED,), (KIND,))), True)
        self.assertIs(theory.has(((KIND,), (CHAINED,))), False)
        self.assertIs(theory.has(((KIND, OTHER), SHOWN)), True)
        for rule in (HIDDEN, ((KIND,), (LIKES,)), ((LIKES,), (LIKES,))):
            self.assertIs(told_of(theory.has, rule), NoRule)

    def test_many(self):
        for field in MORE_FIELDS:
            for told in tellings(field, seed=2):
                theory = Theory(field, **told)
                asked = plain.some_rules(field, 12, shown=True, ifs=2, thens=1, seed=3)
                if "situations" not in told:
                    asked += plain.some_rules(field, 12, ifs=3, seed=3)
                for rule in asked:
                    if "worlds" in told:
                        due = all(holds_in(field, world, rule) for world in told["worlds"])
                    elif "situations" in told:
                        due = set(rule[1]) <= set(theory.closure(rule[0]))
                    else:
                        due = set(rule[1]) <= set(given_of(field, rule[0], rules=told.get("rules", ())))
                    self.assertIs(theory.has(rule), due)

    def test_shown_rules_are_had_by_closures(self):
        for field in (FIELD, WORDY, DEEP):
            for told in tellings(field, seed=4):
                theory = Theory(field, **told)
                for rule in plain.some_rules(field, 25, shown=True, seed=5):
                    self.assertIs(theory.has(rule), set(rule[1]) <= set(theory.closure(rule[0])))

    def test_refusals(self):
        for told in ({"rules": (RULE,)}, {"worlds": (WORLD,)}, {"situations": ((KIND,),)}):
            theory = Theory(FIELD, **told)
            for thing in any_things():
                self.assertIs(told_of(theory.has, thing), NoRule, thing)
            for wrong in (((KIND,), ()), ((OTHER, KIND), (KIND,)), list(RULE), ((KIND,), (("kind", (True,)),))):
                self.assertIs(told_of(theory.has, wrong), NoRule)
            atoms = atoms_of(FIELD)
            self.assertIs(theory.has((atoms[:6], atoms[:6])), True)
        theory = Theory(DEEP)
        self.assertIs(told_of(theory.has, (atoms_of(DEEP)[:21], (KIND,))), NoRule)
        self.assertIs(theory.has((atoms_of(DEEP)[:20], atoms_of(DEEP)[:20])), True)


class TestTelling(unittest.TestCase):

    def test_as_handed_in(self):
        rules, worlds, situations = (RULE, HIDDEN, RULE), (WORLD, (1, ()), WORLD), ((OTHER,), (KIND,), (KIND,))
        told = Theory(FIELD, rules=rules)
        self.assertEqual((told.field(), told.rules(), told.worlds(), told.situations()), (FIELD, rules, None, None))
        told = Theory(FIELD, worlds=worlds)
        self.assertEqual((told.field(), told.rules(), told.worlds(), told.situations()), (FIELD, (), worlds, None))
        told = Theory(FIELD, situations=situations)
        self.assertEqual((told.field(), told.rules(), told.worlds(), told.situations()), (FIELD, (), None, situations))
        told = Theory(FIELD)
        self.assertEqual((told.field(), told.rules(), told.worlds(), told.situations()), (FIELD, (), None, None))
        told = Theory(FIELD, rules=(), worlds=(), situations=None)
        self.assertEqual((told.rules(), told.worlds(), told.situations()), ((), (), None))

    def test_bounds(self):
        self.assertEqual(len(Theory(FIELD, rules=(RULE,) * 300)), 32)
        self.assertIs(told_of(Theory, FIELD, rules=(RULE,) * 301), NoRule)
        self.assertEqual(len(Theory(FIELD, worlds=(WORLD,) * 1000)), len(Theory(FIELD, worlds=(WORLD,))))
        self.assertIs(told_of(Theory, FIELD, worlds=(WORLD,) * 1001), NoWorld)
        rows = plain.all_situations(TEN)
        self.assertEqual(len(rows), 1024)
        self.assertEqual(len(Theory(TEN, situations=tuple(rows))), 1024)
        self.assertEqual(len(Theory(FIELD, situations=((KIND,),) * 1100)), len(Theory(FIELD, situations=((KIND,),))))
        self.assertIs(told_of(Theory, FIELD, situations=((KIND,),) * 1101), NoSituation)

    def test_many_unlike_ones(self):
        worlds = tuple(plain.some_worlds(TEN, 1000))
        theory = Theory(TEN, worlds=worlds)
        rows = [plain.situation(TEN, world, way) for world in worlds[:1000:40] for way in plain.ways(TEN, world)]
        for row in rows:
            self.assertIs(theory.is_closed(row), True)
        for rule in plain.some_rules(TEN, 6, seed=6):
            self.assertIs(theory.has(rule), all(holds_in(TEN, world, rule) for world in worlds))
        rules = tuple(plain.some_rules(TEN, 300, ifs=6, thens=1, seed=7))
        theory = Theory(TEN, rules=rules)
        for row in plain.all_situations(TEN)[::150]:
            self.assertEqual(theory.closure(row), plain.closure(TEN, row, rules=rules))

    def test_whole_situations_alone(self):
        turned = ("turned", "likes")
        self.assertIs(told_of(Theory, KNIT, situations=((LIKES,),)), NoSituation)
        self.assertEqual(len(Theory(KNIT, situations=((LIKES, (turned, (1, 0))),))), 4)
        for row in plain.all_situations(KNIT)[::5]:
            told = told_of(Theory, KNIT, situations=((), row))
            self.assertIs(told is NoSituation, not is_whole(KNIT, row))

    def test_the_order_of_refusals(self):
        bad_rule, bad_world, bad_row = ((),), ((0, ()),), ((LIKES,),)
        self.assertIs(told_of(Theory, None, rules=bad_rule, worlds=bad_world, situations=bad_row), NoField)
        self.assertIs(told_of(Theory, FIELD, rules=bad_rule, worlds=bad_world, situations=bad_row), NoRule)
        self.assertIs(told_of(Theory, FIELD, rules=(RULE,), worlds=bad_world, situations=bad_row), NoWorld)
        self.assertIs(told_of(Theory, FIELD, rules=(RULE,), worlds=(WORLD,), situations=bad_row), NoSituation)
        self.assertIs(told_of(Theory, FIELD, rules=(RULE,), worlds=(WORLD,), situations=((),)), NoTheory)
        self.assertIs(told_of(Theory, FIELD, rules=(RULE,), worlds=()), NoTheory)
        self.assertIs(told_of(Theory, FIELD, rules=(RULE,), situations=()), NoTheory)
        self.assertIs(told_of(Theory, FIELD, worlds=(), situations=()), NoTheory)
        self.assertIs(told_of(Theory, FIELD, situations=bad_row, worlds=bad_world), NoWorld)

    def test_refusals_of_anything(self):
        check_refusals(self, lambda *parts, **more: type(Theory(*parts, **more)).__name__, [
            (FIELD, NoField, is_field), ((RULE,), NoRule, no_rules_or_theory), (None, NoWorld, is_no_told),
            (None, NoSituation, lambda thing: is_no_told(thing) or repr(thing) in ("((), ())",)),
        ], ("rules", "worlds", "situations"))
        for thing in ([WORLD], WORLD, (WORLD, None), {}, ((True, ()),), ((3, [("kind", (0,))]),), ((6, ()),)):
            self.assertIs(told_of(Theory, FIELD, worlds=thing), NoWorld, thing)
            self.assertIs(told_of(Theory, FIELD, situations=thing), NoSituation, thing)
        for thing in ([(KIND,)], (KIND,), ((OTHER, KIND),), ((KIND, KIND),), ([KIND],), ((("kind", (False,)),),), ""):
            self.assertIs(told_of(Theory, FIELD, situations=thing), NoSituation, thing)

    def test_a_refused_one_changes_nothing(self):
        theory = Theory(FIELD, rules=(RULE,))
        before = [theory.closure(row) for row in plain.all_situations(FIELD)]
        for thing in ((LIKES,), None, (KIND, KIND)):
            told_of(theory.closure, thing)
            told_of(theory.has, thing)
        self.assertEqual([theory.closure(row) for row in plain.all_situations(FIELD)], before)


class TestEqual(unittest.TestCase):

    def test_told_otherwise(self):
        theory = Theory(FIELD, rules=(RULE,))
        closed = tuple(row for row in plain.all_situations(FIELD) if theory.is_closed(row))
        self.assertEqual(theory, Theory(FIELD, situations=closed))
        self.assertEqual(theory, Theory(FIELD, situations=closed[::-1]))
        self.assertEqual(theory, Theory(FIELD, rules=(((OTHER,), (KIND,)), ((KIND,), (KIND, OTHER)))))
        self.assertNotEqual(theory, Theory(FIELD))
        # Without those of five atoms, of which none but all atoms have all, they aren't closed.
        self.assertNotEqual(theory, Theory(FIELD, situations=tuple(row for row in closed if len(row) != 5)))
        self.assertEqual(Theory(FIELD, worlds=()), Theory(FIELD, situations=()))
        self.assertEqual(Theory(FIELD, worlds=()), Theory(FIELD, rules=(((), SHOWN),)))
        plain_field = (NOTIONS, ("kind",), 2)
        worlds = ((2, ()), (2, (("kind", (1,)),)), (3, (("kind", (0,)), ("likes", (0, 0)))))
        self.assertEqual(Theory(plain_field, worlds=worlds), Theory(plain_field, situations=((), (KIND,))))

    def test_many(self):
        for field in (FIELD, WORDY):
            theories = [Theory(field, **told) for told in tellings(field, seed=6)]
            rows = plain.all_situations(field)
            closed = [[row for row in rows if theory.is_closed(row)] for theory in theories]
            for one, other in itertools.product(range(len(theories)), repeat=2):
                self.assertIs(theories[one] == theories[other], closed[one] == closed[other])
                self.assertIs(theories[one] != theories[other], closed[one] != closed[other])

    def test_situations_that_are_alike(self):
        rows = ((CHAINED, KIND), (OTHER,))
        turned = tuple(kinds_of(FIELD, row)[-1] for row in rows)
        self.assertEqual(Theory(FIELD, situations=rows), Theory(FIELD, situations=turned))

    def test_other_fields(self):
        # The same closed situations, but the field doesn't stand alike.
        notions, shown, many = FIELD
        self.assertNotEqual(Theory(FIELD), Theory((notions, shown[::-1], many)))
        self.assertNotEqual(Theory(FIELD), Theory((notions[::-1], shown, many)))
        self.assertEqual(Theory(FIELD), Theory(((("likes", 2), ("kind", 1)), (CHAIN, "kind"), 2)))

    def test_of_anything(self):
        theory = Theory(FIELD, worlds=(WORLD,))
        for thing in any_things():
            self.assertIs(theory == thing, False)
            self.assertIs(theory != thing, True)
        self.assertIs(theory == theory, True)

    def test_worlds_are_worlds(self):
        for told in tellings(FIELD):
            for world in told.get("worlds", ()):
                self.assertIs(is_world(FIELD, world), True)


if __name__ == "__main__":
    unittest.main()
