"""What the document promises of the whole: theories by whatever they are told, walks, zoos, lists and verdicts together."""

import itertools
import unittest

from lorestead.house.house import House
from lorestead.lists.fewest import fewest_of, keeps, spare_of
from lorestead.lists.primes import book_of, found_rules
from lorestead.lists.zoo import breaks_in, is_plain, world_of, zoo_of
from lorestead.rules.rules import holds_in, least_rule
from lorestead.theories.closed import closed_of, height_of, kinds_closed
from lorestead.theories.theories import Theory
from lorestead.theories.verdicts import verdict_on
from lorestead.theories.walks import rounds_of, shows_walk, walk_to
from lorestead.worlds.small import small_worlds
from lorestead.worlds.worlds import least_world
from tests import plain
from tests.plain_lists import LARGE_ONES, PLAIN, SMALL_ONES, TEN, THREE, theories
from tests.things import FIELD, LONE, WIDE


class TestTheories(unittest.TestCase):

    def test_walked_or_broken_in_the_zoo(self):
        for field in SMALL_ONES + LARGE_ONES:
            for theory in theories(field):
                listed, _ = fewest_of(theory)
                situations, _ = zoo_of(theory)
                for rule in plain.some_rules(field, 12, shown=True, seed=1):
                    told = walk_to(field, listed, rule)
                    self.assertIs(shows_walk(field, listed, rule, told), True)
                    self.assertIs(told[0] == "walked", theory.has(rule))
                    self.assertIs(rounds_of(field, listed, rule) is not None, theory.has(rule))
                    broken = breaks_in(field, situations, rule)
                    self.assertIs(broken is None, theory.has(rule))

    def test_no_two_alike_and_none_to_leave_out(self):
        for field in SMALL_ONES + LARGE_ONES:
            for theory in theories(field, seed=1):
                listed, stakes = fewest_of(theory)
                self.assertEqual(len({least_rule(field, rule) for rule in listed}), len(listed))
                self.assertEqual(spare_of(theory, listed), ())
                self.assertEqual(len(listed), len(stakes))
                for at in range(len(listed)):
                    self.assertIs(keeps(theory, listed[:at] + listed[at + 1:]), False)

    def test_told_again_in_other_ways(self):
        for field in SMALL_ONES + LARGE_ONES:
            for theory in theories(field, seed=2):
                told = [Theory(field, rules=fewest_of(theory)[0]), Theory(field, situations=zoo_of(theory)[0])]
                told.append(Theory(field, rules=tuple(rule for rule, _ in book_of(theory))))
                if len(found_rules(theory)) <= 300:
                    told.append(Theory(field, rules=found_rules(theory)))
                if len(theory) <= 1000:
                    told.append(Theory(field, situations=closed_of(theory)))
                if is_plain(field):
                    told.append(Theory(field, worlds=tuple(world_of(field, one) for one in zoo_of(theory)[0])))
                for other in told:
                    self.assertEqual(other, theory)
                    self.assertEqual(other.tables(), theory.tables())
                    self.assertEqual(len(other), len(theory))
                    self.assertEqual(height_of(other), height_of(theory))
                    self.assertEqual(kinds_closed(other), kinds_closed(theory))
                    self.assertEqual(found_rules(other), found_rules(theory))
                    self.assertEqual(fewest_of(other), fewest_of(theory))

    def test_verdicts(self):
        for field in (FIELD, LONE, THREE, PLAIN):
            rules = tuple(plain.some_rules(field, 2, ifs=3, thens=1, seed=3))
            worlds = [world for things in (1, 2, 3) for world in small_worlds(field, things, rules=rules)]
            for rule in plain.some_rules(field, 25, seed=4):
                told = verdict_on(field, rule, rules=rules)
                broken = [world for world in worlds if not holds_in(field, world, rule)]
                if told[0] == "broken":
                    self.assertEqual(told[1], broken[0])
                else:
                    self.assertEqual(broken, [])
                if told[0] == "walked":
                    for world in plain.some_worlds(field, 6, seed=5):
                        if all(holds_in(field, world, one) for one in rules):
                            self.assertIs(holds_in(field, world, rule), True)


class TestHouses(unittest.TestCase):

    def test_rules_and_guesses(self):
        for field in (FIELD, WIDE, TEN):
            house = House(field, most=2 if field == TEN else 3)
            for rule, world in zip(plain.some_rules(field, 8, ifs=5, thens=1), plain.some_worlds(field, 8)):
                for call, thing in itertools.product((house.assume, house.show), (rule, world)):
                    try:
                        call(thing)
                    except ValueError:
                        pass
                self.check(field, house)
            if field != TEN:
                house.explore()
                self.check(field, house)
                rules = tuple(house.rules().values())
                known = Theory(field, rules=rules + house.guesses())
                for things in (1, 2, 3):
                    for world in small_worlds(field, things, rules=rules)[::5]:
                        self.assertEqual(least_world(field, world), world)
                        for rule in fewest_of(known)[0]:
                            self.assertIs(holds_in(field, world, rule), True)

    def check(self, field, house):
        """Look that rules and guesses give just the shown rules that hold in all worlds."""
        known = Theory(field, rules=tuple(house.rules().values()) + house.guesses())
        for rule in plain.some_rules(field, 15, shown=True, seed=6):
            held = all(holds_in(field, world, rule) for world in house.worlds().values())
            self.assertIs(known.has(rule), held)


if __name__ == "__main__":
    unittest.main()
