"""Desks: rows, their answers, refusals and the log."""

import itertools
import unittest

from lorestead.errors import Breaks, Broken, LoreError, NoDeed, NoLine, NoNumber, NoText, TooWide
from lorestead.house.house import House
from lorestead.lists.primes import book_of, found_rules
from lorestead.lists.zoo import zoo_of
from lorestead.words.desk import Desk
from lorestead.words.texts import field_text, read_rule, read_world, rule_text, world_text
from tests import plain
from tests.plain_lists import PLAIN, THREE
from tests.things import BROAD, FIELD, FLAT, LONE, WIDE, Watched, any_things, told_of

FIELD_ROW = "field likes 2, kind 1 ; chain likes likes, kind ; 2"
FREE, HIDDEN, RULE = "likes 0 1 > likes 1 0", "kind 0 & likes 0 1 > kind 1", "kind 0 > kind 1"
WORLD = "3 / kind 2 / likes 0 1"
ALONE = ("back", "explore", "guesses", "book", "found", "closed", "zoo", "rules", "worlds")
WITH_REST = ("field", "assume", "show", "forget", "hide", "ask")


def desk_at(*rows):
    """A desk to which the field and these rows were said."""
    desk = Desk()
    desk.many((FIELD_ROW,) + rows)
    return desk


class TestAnswers(unittest.TestCase):

    def test_each_row(self):
        desk = Desk()
        for row, answer in (
            (FIELD_ROW, "ok"), (f"assume {FREE}", "0"), (f"assume {HIDDEN}", "1"), ("rules", f"0 {FREE} | 1 {HIDDEN}"),
            ("worlds", "none"), ("show 2", "0"), ("show 1 / kind 0", "1"), ("worlds", "0 2 | 1 1 / kind 0"),
            ("ask kind 1 & likes 1 0 > kind 0", "walked"), (f"ask {RULE}", "broken 2 / kind 0"),
            ("forget 0", "ok"), ("rules", f"1 {HIDDEN}"), ("hide 0", "ok"), ("worlds", "1 1 / kind 0"),
            ("back", "ok"), ("worlds", "0 2 | 1 1 / kind 0"), ("back", "ok"), (f"assume {FREE}", "2"),
            ("rules", f"0 {FREE} | 1 {HIDDEN} | 2 {FREE}"),
        ):
            self.assertEqual(desk.say(row), answer, row)
        self.assertEqual(len(desk), 19)

    def test_how_many(self):
        for field in (FIELD, LONE, THREE, PLAIN, WIDE, FLAT):
            for seed in range(4):
                desk, house = Desk(), House(field)
                self.assertEqual(desk.say(f"field {field_text(field)}"), "ok")
                for rule in plain.some_rules(field, seed * 2, seed=seed):
                    self.assertEqual(desk.say(f"assume {rule_text(field, rule)}"), str(house.assume(rule)))
                theory = house.theory()
                self.assertEqual(desk.say("guesses"), str(len(house.guesses())))
                self.assertEqual(desk.say("book"), str(len(book_of(theory))))
                self.assertEqual(desk.say("found"), str(len(found_rules(theory))))
                self.assertEqual(desk.say("closed"), str(len(theory)))
                self.assertEqual(desk.say("zoo"), str(len(zoo_of(theory)[0])))
                self.assertEqual(desk.say("explore"), str(house.explore()))
                due = " | ".join(f"{number} {world_text(field, world)}" for number, world in house.worlds().items())
                self.assertEqual(desk.say("worlds"), due or "none")
                self.assertEqual(desk.say("guesses"), str(len(house.guesses())))

    def test_ask(self):
        desk, house = desk_at(f"assume {FREE}"), House(FIELD)
        house.assume(read_rule(FIELD, FREE))
        for rule in plain.some_rules(FIELD, 40, seed=1):
            verdict = house.verdict(rule)
            due = f"broken {world_text(FIELD, verdict[1])}" if verdict[0] == "broken" else verdict[0]
            self.assertEqual(desk.say(f"ask {rule_text(FIELD, rule)}"), due)

    def test_stands(self):
        # What is amid a chain is, of three things, one of the unknowns; of more it may be another one.
        desk, asked = Desk(), "ask chain likes likes 0 1 > kind 0"
        desk.say("field likes 2, kind 1 ; chain likes likes ; 3")
        self.assertTrue(desk.say(asked).startswith("broken 3 / "))
        for rule in ("likes 0 0 & likes 0 1", "likes 0 1 & likes 1 1", "likes 0 2 & likes 2 1"):
            desk.say(f"assume {rule} > kind 0")
        self.assertEqual(desk.say(asked), "stands")
        desk.say("assume chain likes likes 0 1 > kind 0")
        self.assertEqual(desk.say(asked), "walked")

    def test_a_new_house(self):
        desk = desk_at(f"assume {RULE}", "show 1")
        self.assertEqual(desk.say("field kind 1 ; kind ; 3"), "ok")
        self.assertEqual((desk.say("rules"), desk.say("worlds")), ("none", "none"))
        self.assertIs(told_of(desk.say, "back"), NoDeed)
        self.assertIs(told_of(desk.say, "assume likes 0 1 > kind 0"), NoText)
        self.assertEqual(desk.say("assume kind 0 > kind 2"), "0")
        # A refused one leaves the house.
        self.assertIs(told_of(desk.say, "field kind 1 ; kind ; 4"), NoText)
        self.assertEqual(desk.say("rules"), "0 kind 0 > kind 2")


class TestRefusals(unittest.TestCase):

    def test_all_but_field_ahead_of_one(self):
        for row in ALONE + (f"assume {RULE}", "show 1", "forget 0", "hide 0", f"ask {RULE}", "assume x", "show x"):
            desk = Desk()
            self.assertIs(told_of(desk.say, row), NoLine, row)
            self.assertEqual(desk.log(), (("in", row), ("out", row)))
        desk = Desk()
        self.assertIs(told_of(desk.say, "field x"), NoText)
        self.assertIs(told_of(desk.say, "rules"), NoLine)

    def test_no_line(self):
        desk = desk_at()
        for row in (
            "", " ", "house", "Field", "assumes", f" assume {RULE}", f"\tassume {RULE}", "ok", "none", "many", "all",
            "rule", "FIELD", f"assume\t{RULE}", "log", f"Assume {RULE}", "walked",
        ) + tuple(f"{word} 1" for word in ALONE) + tuple(f"{word}  " for word in ALONE) + tuple(f" {word}" for word in ALONE):
            self.assertIs(told_of(desk.say, row), NoLine, row)
        # Without the rest that is due.
        for word in WITH_REST:
            self.assertIs(told_of(desk.say, word), NoLine, word)
        for thing in any_things():
            self.assertIs(told_of(desk.say, thing), NoLine, thing)
        for wrong in ([FIELD_ROW], (FIELD_ROW,), b"rules", 7, None):
            self.assertIs(told_of(desk.say, wrong), NoLine)

    def test_numbers(self):
        desk = desk_at(*[f"assume {FREE}"] * 12, *["show 2"] * 12)
        for word in ("forget", "hide"):
            self.assertEqual(desk.say(f"{word} 10"), "ok")
            self.assertEqual(desk.say(f"{word} 0"), "ok")
            for number in ("0", "10", "12", "99", "100", "123456789", "999999999"):
                with self.assertRaises(NoNumber) as caught:
                    desk.say(f"{word} {number}")
                self.assertEqual(caught.exception.number, int(number))
            for number in (
                "1234567890", "0000000001", "01", "00", "-1", "+1", "1.0", "x", "", " 1", "1 ", "1 1", "1e0", "0x1", "1_0",
                "\u0661", "\u00b2", "9999999999999999999999", "one", "1" * 5000,
            ):
                self.assertIs(told_of(desk.say, f"{word} {number}"), NoLine, number)

    def test_no_text(self):
        desk = desk_at()
        for row in (
            "assume x", "assume kind 0", "assume  kind 0 > kind 1", "assume kind 0 > kind 1 ", "ask ", "assume ", "show ",
            "field ", "ask kind 1 & kind 0 > kind 1", "show 0", "show 6", "show 2 / kind 2", "show  1", "field x",
            "field kind 1 ; kind ; 4", f"field  {FIELD_ROW[6:]}", f"{FIELD_ROW} ", "ask kind 0 > kind 1 > kind 0",
        ):
            self.assertIs(told_of(desk.say, row), NoText, row)

    def test_as_the_house_refuses(self):
        desk = desk_at()
        self.assertIs(told_of(desk.say, "back"), NoDeed)
        desk.many((f"assume {FREE}", f"assume {HIDDEN}", "show 1 / kind 0"))
        for row, number in (("show 2 / kind 0 / likes 0 1", 0), ("show 2 / kind 0 / likes 0 1 / likes 1 0", 1)):
            with self.assertRaises(Breaks) as caught:
                desk.say(row)
            self.assertEqual(caught.exception.number, number)
        desk.say("show 2 / kind 0")
        with self.assertRaises(Broken) as caught:
            desk.say(f"assume {RULE}")
        self.assertEqual(caught.exception.number, 1)
        broad = Desk()
        broad.say(f"field {field_text(BROAD)}")
        self.assertIs(told_of(broad.say, "explore"), TooWide)
        self.assertIs(told_of(broad.say, f"ask {RULE}"), TooWide)
        self.assertEqual(broad.say("ask kind 0 > kind 0"), "walked")


class TestMany(unittest.TestCase):

    def test_some(self):
        desk = Desk()
        self.assertEqual(desk.many(()), ())
        self.assertEqual(desk.many((FIELD_ROW, f"assume {RULE}", "rules")), ("ok", "0", f"0 {RULE}"))
        self.assertEqual(len(desk), 3)

    def test_up_to_the_first_refused(self):
        desk = Desk()
        rows = (FIELD_ROW, f"assume {RULE}", "forget 7", "show 2")
        with self.assertRaises(NoNumber):
            desk.many(rows)
        self.assertEqual((len(desk), desk.say("rules"), desk.say("worlds")), (3, f"0 {RULE}", "none"))
        for rows, error in (((None, "rules"), NoLine), (("assume x",), NoText), (("show 2 / kind 0",), Breaks)):
            self.assertIs(told_of(desk.many, rows), error)

    def test_of_no_tuple(self):
        desk = desk_at()
        before = desk.log()
        for thing in any_things() + [["rules"], "rules", {"rules": 1}]:
            if thing != () and not isinstance(thing, tuple):
                self.assertIs(told_of(desk.many, thing), NoLine, thing)
        self.assertEqual(desk.log(), before)
        self.assertEqual(len(desk), 1)


class TestLog(unittest.TestCase):

    def test_of_each_begun(self):
        desk = Desk()
        rows = (FIELD_ROW, f"assume {RULE}", "show 2 / kind 0", "show x", "nothing", "", "back", "rules")
        due = []
        for row in rows:
            told_of(desk.say, row)
            due += [("in", row), ("out", row)]
            self.assertEqual(desk.log(), tuple(due))
            self.assertIs(desk.is_busy(), False)
        for thing in any_things():
            if not isinstance(thing, str):
                self.assertIs(told_of(desk.say, thing), NoLine)
                due += [("in", ""), ("out", "")]
                self.assertEqual(desk.log(), tuple(due))
                self.assertIs(desk.is_busy(), False)
        self.assertEqual(len(desk), len(due) // 2)
        told_of(desk.many, ("rules", "x", "rules"))
        self.assertEqual(desk.log()[len(due):], (("in", "rules"), ("out", "rules"), ("in", "x"), ("out", "x")))
        self.assertIsInstance(desk.log(), tuple)

    def test_busy_within_a_row(self):
        desk = Desk()
        desk._entries = Watched(desk.is_busy)
        self.assertIs(desk.is_busy(), False)
        for row in (FIELD_ROW, f"assume {RULE}", "x", None, "back"):
            told_of(desk.say, row)
            self.assertIs(desk.is_busy(), False)
        self.assertEqual(desk._entries.told, [True] * 10)

    def test_beside_a_house(self):
        desk, house = desk_at(), House(FIELD)
        rows = [f"assume {rule_text(FIELD, rule)}" for rule in plain.some_rules(FIELD, 12, seed=2)]
        rows += [f"show {world_text(FIELD, world)}" for world in plain.some_worlds(FIELD, 12, seed=2)]
        rows += [f"{word} {number}" for word in ("forget", "hide") for number in range(6)] + ["back", "explore", "back"] * 4
        for row in rows[::3] + rows[1::3] + rows[2::3] + rows[::-1]:
            word, _, rest = row.partition(" ")
            part = {"assume": read_rule, "show": read_world}.get(word, lambda _, text: int(text))(FIELD, rest) if rest else 0
            call = getattr(house, word)
            due = told_of(lambda: call(part) if rest else call())
            told = told_of(desk.say, row)
            self.assertEqual(told, due if isinstance(due, type) else "ok" if due is None else str(due), row)
            texts = [f"{number} {rule_text(FIELD, rule)}" for number, rule in house.rules().items()]
            self.assertEqual(desk.say("rules"), " | ".join(texts) or "none")
            texts = [f"{number} {world_text(FIELD, world)}" for number, world in house.worlds().items()]
            self.assertEqual(desk.say("worlds"), " | ".join(texts) or "none")

    def test_two_desks(self):
        one, other = desk_at(f"assume {RULE}"), Desk()
        self.assertEqual((len(one), len(other)), (2, 0))
        self.assertIs(told_of(other.say, "rules"), NoLine)
        self.assertEqual(one.say("rules"), f"0 {RULE}")
        for pair in itertools.product((one, other), ("x", None)):
            self.assertTrue(issubclass(told_of(pair[0].say, pair[1]), LoreError))


if __name__ == "__main__":
    unittest.main()
