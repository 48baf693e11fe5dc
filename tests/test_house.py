"""Houses: deeds, rows of them, back, exploring, guesses, the log."""

import copy
import random
import unittest

from lorestead.errors import (
    Breaks, Broken, LoreError, NoDeed, NoField, NoMost, NoNumber, NoRule, NoWorld, TooWide,
)
from lorestead.fields.fields import is_field
from lorestead.house.house import MOST_THINGS, House
from lorestead.lists.fewest import fewest_of, shows_fewest
from lorestead.rules.rules import holds_in, is_rule
from lorestead.theories.theories import Theory
from lorestead.theories.verdicts import shows_verdict, verdict_on
from lorestead.worlds.small import small_worlds
from lorestead.worlds.worlds import is_world, least_world
from tests import plain, plain_lists
from tests.plain_lists import PLAIN, THREE
from tests.things import (
    BROAD, CHAIN, DEEP, FIELD, FLAT, LONE, NOTIONS, WIDE, Watched, any_things, check_refusals, told_of,
)

KIND, OTHER, LIKES, BACK = ("kind", (0,)), ("kind", (1,)), ("likes", (0, 1)), ("likes", (1, 0))
RULE = ((KIND,), (OTHER,))
HIDDEN = ((KIND, LIKES), (OTHER,))
FREE = ((LIKES,), (BACK,))
EMPTY = (2, ())
# It breaks the rule, and of the others the hidden one.
WORLD = (2, (("kind", (0,)), ("likes", (0, 1))))
KINDLESS = (3, (("likes", (0, 1)), ("likes", (1, 2))))
WRONG_DEEDS = (
    None, 0, True, "explore", [], ["explore"], (), ("explore", 1), ("assume",), ("assume", RULE, RULE), ("back",),
    ("all", ()), ("Assume", RULE), (1, RULE), ((), RULE), ({}, []), ("none",), ("forget",), {"assume": RULE},
    ("explore", None), ("show",), (None,), ([],), ("",), ("hide", 0, 0), ("assume", [RULE], 1),
)


class TestDeeds(unittest.TestCase):

    def test_numbers(self):
        house = House(FIELD)
        self.assertEqual([house.assume(HIDDEN), house.assume(FREE), house.assume(HIDDEN)], [0, 1, 2])
        self.assertEqual([house.show(EMPTY), house.show((2, ()))], [0, 1])
        self.assertEqual(house.rules(), {0: HIDDEN, 1: FREE, 2: HIDDEN})
        self.assertEqual(house.worlds(), {0: EMPTY, 1: EMPTY})
        self.assertIsNone(house.forget(1))
        self.assertIsNone(house.hide(0))
        self.assertEqual(house.rules(), {0: HIDDEN, 2: HIDDEN})
        self.assertEqual(house.worlds(), {1: EMPTY})
        # No number again.
        self.assertEqual((house.assume(FREE), house.show(EMPTY)), (3, 2))
        self.assertEqual(list(house.rules()), [0, 2, 3])
        house.forget(3)
        house.hide(2)
        self.assertEqual((house.assume(FREE), house.show(EMPTY)), (4, 3))
        # But by back.
        house.back()
        house.back()
        self.assertEqual((house.show(EMPTY), house.assume(FREE)), (3, 4))

    def test_broken(self):
        house = House(FIELD)
        for world in (EMPTY, (1, ()), KINDLESS, WORLD, (3, (("kind", (2,)),))):
            house.show(world)
        for number in (3, 4):
            with self.assertRaises(Broken) as caught:
                house.assume(RULE)
            self.assertEqual(caught.exception.number, number)
            house.hide(number)
        self.assertEqual(house.assume(RULE), 0)
        self.assertEqual(len(house), 4)

    def test_the_first_of_worlds_of_many_things(self):
        house = House(FIELD)
        for things in (5, 4, 3, 2, 1):
            house.show((things, (("kind", (0,)),)))
        for number in range(4):
            with self.assertRaises(Broken) as caught:
                house.assume(RULE)
            self.assertEqual(caught.exception.number, number)
            house.hide(number)
        self.assertEqual(house.assume(RULE), 0)

    def test_breaks(self):
        house = House(FIELD)
        for rule in (FREE, ((LIKES, BACK), (KIND,)), RULE, HIDDEN):
            house.assume(rule)
        for number in (0, 2, 3):
            with self.assertRaises(Breaks) as caught:
                house.show(WORLD)
            self.assertEqual(caught.exception.number, number)
            house.forget(number)
        self.assertEqual(house.show(WORLD), 0)
        self.assertEqual(repr(house), "House(1 rules, 1 worlds)")

    def test_many(self):
        for field in (FIELD, WIDE, FLAT, BROAD):
            rules = plain.some_rules(field, 25, seed=1)
            worlds = plain.some_worlds(field, 25, seed=1)
            house = House(field)
            for rule, world in zip(rules, worlds):
                broken = [at for at, other in house.worlds().items() if not holds_in(field, other, rule)]
                told = self.number_of(house.assume, rule, Broken)
                self.assertEqual(told, broken[0] if broken else None)
                breaks = [at for at, other in house.rules().items() if not holds_in(field, world, other)]
                told = self.number_of(house.show, world, Breaks)
                self.assertEqual(told, breaks[0] if breaks else None)

    def number_of(self, call, thing, error):
        try:
            call(thing)
        except error as refusal:
            return refusal.number
        return None

    def test_refusals(self):
        check_refusals(self, lambda *parts, **more: repr(House(*parts, **more)), [
            (FIELD, NoField, is_field), (2, NoMost, lambda thing: type(thing) is int and 1 <= thing <= 3),
        ], ("most",))
        self.assertEqual(MOST_THINGS, 3)
        self.assertNotEqual(House(FIELD), House(FIELD, most=2))
        self.assertEqual(House(FIELD), House(FIELD, most=3))
        house = House(FIELD)
        house.assume(HIDDEN)
        house.show(EMPTY)
        before = (house.rules(), house.worlds())
        for thing in any_things():
            self.assertIs(told_of(house.assume, thing) is NoRule, not is_rule(FIELD, thing), thing)
            self.assertIs(told_of(house.show, thing) is NoWorld, not is_world(FIELD, thing), thing)
            self.assertIs(told_of(house.verdict, thing) is NoRule, not is_rule(FIELD, thing), thing)
            for call in (house.forget, house.hide):
                if type(thing) is not int or thing != 0:
                    with self.assertRaises(NoNumber) as caught:
                        call(thing)
                    self.assertEqual(repr(caught.exception.number), repr(thing))
        self.assertEqual((house.rules(), house.worlds()), before)
        house.forget(0)
        house.hide(0)
        for call in (house.forget, house.hide):
            self.assertIs(told_of(call, 0), NoNumber)
        self.assertEqual(len(house), 0)


class TestRows(unittest.TestCase):

    def test_all(self):
        house = House(FIELD)
        told = house.all_of((
            ("assume", FREE), ("show", EMPTY), ("assume", RULE), ("forget", 0), ("explore",), ("hide", 0),
        ))
        self.assertEqual(told[:4] + told[5:], (0, 0, 1, None, None))
        self.assertEqual(told[4], len(house) - 1)
        self.assertEqual(house.rules(), {1: RULE})
        house.back()
        self.assertEqual((house.rules(), house.worlds()), ({}, {}))
        self.assertEqual((house.assume(FREE), house.show(EMPTY)), (0, 0))

    def test_none(self):
        house = House(FIELD)
        house.assume(FREE)
        self.assertEqual(house.all_of(()), ())
        # It stands as any other, so it is what is taken back.
        house.back()
        self.assertEqual(house.rules(), {0: FREE})
        house.back()
        self.assertIs(told_of(house.back), NoDeed)

    def test_all_or_none(self):
        house = House(FIELD)
        house.assume(HIDDEN)
        house.show(KINDLESS)
        for last, error in (
            (("show", WORLD), Breaks), (("assume", FREE), Broken), (("forget", 7), NoNumber), (("hide", True), NoNumber),
            (("show", RULE), NoWorld), (("assume", EMPTY), NoRule), (None, NoDeed), (("back",), NoDeed),
        ):
            before = (house.rules(), house.worlds(), len(house))
            deeds = (("assume", RULE), ("show", EMPTY), ("forget", 0), ("hide", 0), ("show", KINDLESS), last)
            self.assertIs(told_of(house.all_of, deeds + (("hide", 99),)), error, last)
            self.assertEqual((house.rules(), house.worlds(), len(house)), before)
        # Numbers, too.
        self.assertEqual((house.assume(RULE), house.show(EMPTY)), (1, 1))

    def test_what_is_no_deed(self):
        house = House(FIELD)
        for wrong in WRONG_DEEDS:
            self.assertIs(told_of(house.all_of, (wrong,)), NoDeed, wrong)
            self.assertIs(told_of(house.all_of, (("assume", RULE), wrong)), NoDeed, wrong)
            # As it comes to it.
            self.assertIs(told_of(house.all_of, (("assume", None), wrong)), NoRule, wrong)
            self.assertEqual(house.log()[-4:], (
                ("all", "in"), ("assume", "in"), ("assume", "refused"), ("all", "refused"),
            ))
        for wrong in any_things() + [[("assume", RULE)], ("assume", RULE), {"assume": RULE}, "back"]:
            if wrong != ():
                self.assertIs(told_of(house.all_of, wrong), NoDeed, wrong)
        self.assertEqual(len(house), 0)
        self.assertIs(told_of(house.back), NoDeed)


class TestBack(unittest.TestCase):

    def test_deed_by_deed(self):
        house = House(FIELD)
        seen = [copy.deepcopy((house.rules(), house.worlds()))]
        house.assume(HIDDEN)
        seen.append((house.rules(), house.worlds()))
        house.show(EMPTY)
        seen.append((house.rules(), house.worlds()))
        house.all_of((("show", KINDLESS), ("hide", 0), ("assume", RULE)))
        seen.append((house.rules(), house.worlds()))
        house.forget(0)
        seen.append((house.rules(), house.worlds()))
        house.explore()
        seen.append((house.rules(), house.worlds()))
        told_of(house.assume, None)
        house.hide(1)
        for state in seen[::-1]:
            self.assertIsNone(house.back())
            self.assertEqual((house.rules(), house.worlds()), state)
        for _ in range(2):
            self.assertIs(told_of(house.back), NoDeed)
        self.assertEqual((house.assume(HIDDEN), house.show(EMPTY)), (0, 0))

    def test_an_exploring_that_puts_none(self):
        house = House(FIELD, most=1)
        house.assume(HIDDEN)
        self.assertEqual(house.explore(), 0)
        house.back()
        self.assertEqual(house.rules(), {0: HIDDEN})
        house.back()
        self.assertEqual(house.rules(), {})

    def test_what_is_forgotten_comes_back_in_its_place(self):
        house = House(FIELD)
        for rule in (FREE, HIDDEN, RULE):
            house.assume(rule)
        house.forget(1)
        house.back()
        self.assertEqual(list(house.rules().items()), [(0, FREE), (1, HIDDEN), (2, RULE)])
        self.assertEqual(house.theory().rules(), (FREE, HIDDEN, RULE))


class TestExplore(unittest.TestCase):

    def check(self, house, field, most):
        """Look at what an exploring puts to the house."""
        rules, before = tuple(house.rules().values()), house.worlds()
        told = house.explore()
        worlds = house.worlds()
        self.assertEqual(told, len(worlds) - len(before))
        self.assertEqual(list(worlds.items())[:len(before)], list(before.items()))
        self.assertEqual(tuple(house.rules().values()), rules)
        ahead = list(before.values())
        for number in list(worlds)[len(before):]:
            world = worlds[number]
            self.assertLessEqual(world[0], most)
            self.assertEqual(least_world(field, world), world)
            self.assertTrue(all(holds_in(field, world, rule) for rule in rules))
            # A shown rule that held in all ahead is broken where a closure is another one then.
            self.assertNotEqual(Theory(field, worlds=tuple(ahead)), Theory(field, worlds=tuple(ahead) + (world,)))
            ahead.append(world)
        theory = Theory(field, worlds=tuple(ahead))
        for things in range(1, most + 1):
            for world in small_worlds(field, things, rules=rules):
                for way in plain.ways(field, world):
                    self.assertIs(theory.is_closed(plain.situation(field, world, way)), True)
        self.assertEqual(house.explore(), 0)
        self.assertEqual(house.worlds(), worlds)

    def test_some(self):
        for field in (FIELD, LONE, THREE, PLAIN):
            for most in (1, 2, 3):
                for rules in ((), (RULE,), (HIDDEN, FREE)):
                    for worlds in ((), (KINDLESS, EMPTY)):
                        house = House(field, most=most)
                        for rule in rules:
                            if is_rule(field, rule):
                                house.assume(rule)
                        for world in worlds:
                            if is_world(field, world):
                                told_of(house.show, world)
                        self.check(house, field, most)

    def test_worlds_with_what_others_were_for(self):
        # A world that is put for one situation brings others, for which no further one may be put then.
        chained = ("chain", "likes", "likes")
        for field, seeds in (
            (FIELD, (16, 24, 28)), ((NOTIONS, (chained, "kind", ("turned", "likes")), 2), (0, 1, 2)),
            ((NOTIONS, ("likes", "kind", ("some", chained)), 2), (0, 9, 10)),
        ):
            for seed in seeds:
                house = House(field)
                for rule in plain.some_rules(field, 1 + seed % 5, ifs=4, thens=1, seed=seed):
                    house.assume(rule)
                self.check(house, field, 3)

    def test_widest(self):
        for field in (WIDE, FLAT, DEEP):
            house = House(field)
            for rule in plain.some_rules(field, 2, ifs=2, thens=1, seed=4):
                house.assume(rule)
            told = house.explore()
            self.assertEqual(told, len(house.worlds()))
            theory, rules = house.theory(seen=True), tuple(house.rules().values())
            for world in small_worlds(field, 3, rules=rules)[::9]:
                for way in plain.ways(field, world):
                    self.assertIs(theory.is_closed(plain.situation(field, world, way)), True)
            self.assertEqual(house.explore(), 0)

    def test_too_wide(self):
        house = House(BROAD)
        house.assume(RULE)
        self.assertIs(told_of(house.explore), TooWide)
        self.assertEqual((house.rules(), house.worlds()), ({0: RULE}, {}))
        self.assertIs(told_of(house.all_of, (("show", EMPTY), ("explore",))), TooWide)
        self.assertEqual(house.worlds(), {})
        self.assertEqual(house.log()[-1], ("all", "refused"))
        self.assertGreater(House(BROAD, most=2).explore(), 0)
        self.assertIs(told_of(House(((("near", 2), ("likes", 2)), ("near",), 1), most=2).explore), 1)

    def test_numbers(self):
        house = House(FIELD)
        house.show(EMPTY)
        house.hide(0)
        told = house.explore()
        self.assertEqual(list(house.worlds()), list(range(1, told + 1)))
        house.back()
        self.assertEqual(house.show(EMPTY), 1)


class TestTold(unittest.TestCase):

    def test_the_askers_own(self):
        house = House(FIELD)
        house.assume(HIDDEN)
        house.show(EMPTY)
        house.rules().clear()
        house.worlds()[5] = WORLD
        self.assertEqual((house.rules(), house.worlds()), ({0: HIDDEN}, {0: EMPTY}))
        self.assertIsInstance(house.log(), tuple)

    def test_guesses(self):
        house = House(FIELD)
        # By no worlds all holds.
        self.assertEqual(len(house.guesses()), 1)
        self.assertEqual(Theory(FIELD, rules=house.guesses()), Theory(FIELD, worlds=()))
        house.assume(HIDDEN)
        self.assertEqual(len(house.guesses()), 1)
        house.explore()
        told = Theory(FIELD, worlds=tuple(house.worlds().values()))
        _, stakes = fewest_of(told, ground=(HIDDEN,))
        self.assertIs(shows_fewest(told, (house.guesses(), stakes), ground=(HIDDEN,)), True)
        self.assertEqual(house.guesses(), house.guesses())

    def test_many_guesses(self):
        for field in (FIELD, LONE, THREE, PLAIN, WIDE, BROAD):
            house = House(field)
            for rule, world in zip(plain.some_rules(field, 9, ifs=4, thens=1), plain.some_worlds(field, 9)):
                told_of(house.show, world)
                told_of(house.assume, rule)
                rules = tuple(house.rules().values())
                told = Theory(field, worlds=tuple(house.worlds().values()))
                guesses = house.guesses()
                _, stakes = fewest_of(told, ground=rules)
                self.assertIs(shows_fewest(told, (guesses, stakes), ground=rules), True)
                both = Theory(field, rules=rules + guesses)
                for row in plain.all_situations(field)[::11]:
                    self.assertEqual(both.closure(row), told.closure(row))

    def test_verdict(self):
        house = House(FIELD)
        house.assume(FREE)
        house.assume(HIDDEN)
        self.assertEqual(house.verdict(((OTHER, BACK), (KIND,)))[0], "walked")
        self.assertEqual(house.verdict(((OTHER, BACK), (KIND,)))[1][0][:2], ("rule", 1))
        self.assertEqual(house.verdict(((LIKES,), (LIKES, BACK)))[1][0][:2], ("rule", 0))
        self.assertEqual(house.verdict(RULE)[0], "broken")
        house.forget(0)
        # By their places in order, not by their numbers.
        self.assertEqual(house.verdict(((OTHER, BACK), (KIND,)))[1][0][:2], ("rule", 0))
        self.assertEqual(House(FIELD, most=1).verdict(RULE)[0], "stands")
        self.assertIs(told_of(House(BROAD).verdict, RULE), TooWide)
        self.assertEqual(House(BROAD).verdict(((KIND,), (KIND,))), ("walked", ()))
        for most in (1, 2, 3):
            house = House(FIELD, most=most)
            for rule in plain.some_rules(FIELD, 3, seed=5):
                house.assume(rule)
            rules = tuple(house.rules().values())
            for rule in plain.some_rules(FIELD, 20, seed=6):
                told = house.verdict(rule)
                self.assertIs(shows_verdict(FIELD, rule, told, rules=rules, most=most), True)
                self.assertEqual(told[0], verdict_on(FIELD, rule, rules=rules, most=most)[0])

    def test_theory(self):
        house = House(FIELD)
        self.assertEqual(house.theory(), Theory(FIELD))
        self.assertEqual(house.theory(seen=True), Theory(FIELD, worlds=()))
        house.assume(HIDDEN)
        house.show(KINDLESS)
        self.assertEqual(house.theory().rules(), (HIDDEN,))
        self.assertEqual(house.theory(seen=False).rules(), (HIDDEN,))
        self.assertEqual(house.theory(seen=True).worlds(), (KINDLESS,))
        self.assertIsNone(house.theory().worlds())

    def test_equal(self):
        one, other = House(FIELD), House(FIELD)
        self.assertEqual(one, other)
        one.assume(RULE)
        self.assertNotEqual(one, other)
        other.assume(HIDDEN)
        self.assertNotEqual(one, other)
        other.forget(0)
        other.assume(RULE)
        # The same rule by another number.
        self.assertNotEqual(one, other)
        for _ in range(3):
            other.back()
        other.assume(RULE)
        self.assertEqual(one, other)
        one.show(EMPTY)
        self.assertNotEqual(one, other)
        other.all_of((("show", EMPTY),))
        self.assertEqual(one, other)
        self.assertNotEqual(House(FIELD, most=2), House(FIELD))
        self.assertNotEqual(House((NOTIONS, FIELD[1][::-1], 2)), House(FIELD))
        for thing in any_things() + [Theory(FIELD)]:
            self.assertIs(one == thing, False)
            self.assertIs(one != thing, True)

    def test_len_and_repr(self):
        house = House(FIELD)
        self.assertEqual((len(house), repr(house)), (0, "House(0 rules, 0 worlds)"))
        house.all_of((("assume", FREE), ("assume", HIDDEN), ("show", EMPTY), ("show", EMPTY), ("show", (1, ()))))
        self.assertEqual((len(house), repr(house)), (5, "House(2 rules, 3 worlds)"))


class TestLog(unittest.TestCase):

    def test_each_deed(self):
        house = House(FIELD)
        self.assertEqual(house.log(), ())
        due = []
        for word, call, parts in (
            ("assume", house.assume, (HIDDEN,)), ("show", house.show, (KINDLESS,)), ("forget", house.forget, (0,)),
            ("hide", house.hide, (0,)), ("explore", house.explore, ()), ("back", house.back, ()),
        ):
            call(*parts)
            due += [(word, "in"), (word, "done")]
            self.assertEqual(house.log(), tuple(due))
            self.assertIs(house.is_busy(), False)
        house.guesses(), house.verdict(RULE), house.theory(), house.rules(), len(house)
        self.assertEqual(house.log(), tuple(due))

    def test_refused(self):
        house = House(BROAD)
        due = []
        for word, call, parts in (
            ("assume", house.assume, (None,)), ("show", house.show, ([],)), ("forget", house.forget, (0,)),
            ("hide", house.hide, ("0",)), ("explore", house.explore, ()), ("back", house.back, ()),
            ("all", house.all_of, (None,)), ("all", house.all_of, ([("explore",)],)),
        ):
            self.assertTrue(issubclass(told_of(call, *parts), (LoreError, NoNumber)))
            due += [(word, "in"), (word, "refused")]
            self.assertEqual(house.log(), tuple(due))
            self.assertIs(house.is_busy(), False)

    def test_rows(self):
        house = House(FIELD)
        house.all_of(())
        self.assertEqual(house.log(), (("all", "in"), ("all", "done")))
        house.all_of((("assume", RULE), ("show", EMPTY)))
        self.assertEqual(house.log()[2:], (
            ("all", "in"), ("assume", "in"), ("assume", "done"), ("show", "in"), ("show", "done"), ("all", "done"),
        ))
        told_of(house.all_of, (("hide", 0), ("show", WORLD), ("explore",)))
        self.assertEqual(house.log()[8:], (
            ("all", "in"), ("hide", "in"), ("hide", "done"), ("show", "in"), ("show", "refused"), ("all", "refused"),
        ))
        told_of(house.all_of, (("explore",), ("back",), ("explore",)))
        self.assertEqual(house.log()[14:], (
            ("all", "in"), ("explore", "in"), ("explore", "done"), ("none", "in"), ("none", "refused"),
            ("all", "refused"),
        ))
        for wrong in WRONG_DEEDS:
            many = len(house.log())
            told_of(house.all_of, (wrong,))
            due = (("all", "in"), ("none", "in"), ("none", "refused"), ("all", "refused"))
            self.assertEqual(house.log()[many:], due)
        # Nothing takes it back.
        many = len(house.log())
        house.back()
        self.assertEqual(len(house.log()), many + 2)
        self.assertIs(house.is_busy(), False)


class TestBusy(unittest.TestCase):

    def test_within_a_deed(self):
        house = House(FIELD)
        house._entries = Watched(house.is_busy)
        self.assertIs(house.is_busy(), False)
        for call, parts in (
            (house.assume, (HIDDEN,)), (house.show, (EMPTY,)), (house.all_of, ((("explore",), ("forget", 0)),)),
            (house.all_of, ((("explore",), None),)), (house.show, (None,)), (house.back, ()), (house.explore, ()),
        ):
            told_of(call, *parts)
            self.assertIs(house.is_busy(), False)
        self.assertEqual(house._entries.told, [True] * len(house.log()))
        self.assertEqual(len(house.log()), 22)


class TestWhole(unittest.TestCase):

    def test_whatever_it_was_told_and_took_back(self):
        for field in (FIELD, LONE, THREE, PLAIN):
            chance = random.Random(repr(field))
            house = House(field)
            rules, worlds = plain.some_rules(field, 12, seed=7), plain.some_worlds(field, 20, seed=7)
            stood = [(house.rules(), house.worlds())]
            for _ in range(150):
                word = chance.choice(["assume", "show", "show", "forget", "hide", "explore", "back", "all"])
                deeds = tuple(self.some_deed(chance, rules, worlds) for _ in range(chance.randint(0, 3)))
                if word == "back":
                    refused = told_of(house.back) is NoDeed
                    self.assertIs(refused, len(stood) == 1)
                    stood = stood if refused else stood[:-1]
                    self.assertEqual((house.rules(), house.worlds()), stood[-1])
                    continue
                if word != "all":
                    deeds = (self.some_deed(chance, rules, worlds, word),)
                call = house.all_of if word == "all" else getattr(house, word)
                parts = (deeds,) if word == "all" else deeds[0][1:]
                try:
                    call(*parts)
                    stood.append((house.rules(), house.worlds()))
                except (LoreError, NoNumber):
                    self.assertEqual((house.rules(), house.worlds()), stood[-1])
                self.check_stands(house, field)

    def some_deed(self, chance, rules, worlds, word=None):
        word = word or chance.choice(["assume", "show", "forget", "hide", "explore"])
        things = {"assume": rules, "show": worlds, "forget": range(9), "hide": range(9)}
        return (word, chance.choice(things[word])) if word in things else (word,)

    def check_stands(self, house, field):
        """Look that the house tells what one tells that was told just what stands."""
        rules, worlds = house.rules(), house.worlds()
        self.assertEqual((list(rules), list(worlds)), (sorted(rules), sorted(worlds)))
        other = House(field)
        other.all_of(tuple(("show", world) for world in worlds.values()))
        other.all_of(tuple(("assume", rule) for rule in rules.values()))
        self.assertEqual(len(house), len(rules) + len(worlds))
        self.assertEqual(house.guesses(), other.guesses())
        self.assertEqual(house.theory(), other.theory())
        self.assertEqual(house.theory(seen=True), other.theory(seen=True))
        given = Theory(field, rules=tuple(rules.values()) + house.guesses())
        for rule in plain.some_rules(field, 6, shown=True, seed=8):
            self.assertEqual(house.verdict(rule), other.verdict(rule))
            self.assertIs(given.has(rule), all(holds_in(field, world, rule) for world in worlds.values()))

    def test_many_worlds_and_rules(self):
        worlds = plain.some_worlds(WIDE, 900, seed=9)
        house = House(WIDE)
        for world in worlds:
            house.show(world)
        self.assertEqual(len(house), 900)
        rules = plain.some_rules(WIDE, 400, ifs=9, thens=1, seed=9)
        told = Theory(WIDE, worlds=tuple(worlds))
        had = [rule for rule in rules if told.has(rule)][:60]
        self.assertEqual(len(had), 60)
        for rule in had:
            house.assume(rule)
        self.assertEqual(plain_lists.keeps(house.theory(seen=True), house.guesses(), tuple(had)), True)
        house.explore()
        house.back()
        self.assertEqual(len(house.worlds()), 900)


if __name__ == "__main__":
    unittest.main()
