"""Texts as they are written, and what is read of them."""

import random
import unittest

from lorestead.errors import NoAtom, NoField, NoRow, NoRule, NoText, NoWorld
from lorestead.fields.fields import atoms_of, is_atom, is_field
from lorestead.fields.renamings import is_row
from lorestead.fields.terms import term_text
from lorestead.rules.rules import is_rule
from lorestead.words.texts import (
    atom_text, field_text, read_field, read_rule, read_world, row_text, rule_text, world_text,
)
from lorestead.worlds.worlds import is_world
from tests import plain
from tests.plain_lists import KNIT, PLAIN, SINGLE, TEN, THREE
from tests.test_busy import BUSY
from tests.things import BROAD, CHAIN, DEEP, FIELD, FLAT, MORE_FIELDS, WORDY, any_things, check_refusals, told_of

KIND, OTHER, LIKES = ("kind", (0,)), ("kind", (1,)), ("likes", (0, 1))
CHAINED = (CHAIN, (0, 1))
RULE = ((OTHER, LIKES), (KIND,))
WORLD = (3, (("kind", (2,)), ("likes", (0, 1))))
RULE_TEXT, WORLD_TEXT = "kind 1 & likes 0 1 > kind 0", "3 / kind 2 / likes 0 1"
FIELD_TEXT = "likes 2, kind 1 ; chain likes likes, kind ; 2"
EVERY = MORE_FIELDS + (KNIT, PLAIN, SINGLE, TEN, THREE) + BUSY


def mangled(text, many=400):
    """The text with signs left out, doubled, put in and exchanged."""
    chance = random.Random(text)
    signs = " &>/;,-0123a~" + text
    for at in range(len(text) + 1):
        yield text[:at] + text[at + 1:]
        yield text[:at] + text[at:at + 1] + text[at:]
        yield text[:at] + " " + text[at:]
        yield text[:at] + "0" + text[at:]
    for _ in range(many):
        at = chance.randrange(len(text) + 1)
        yield text[:at] + chance.choice(signs) + text[at + chance.randint(0, 2):]
    parts = text.split(" ")
    for _ in range(many):
        one, other = chance.randrange(len(parts)), chance.randrange(len(parts))
        mixed = list(parts)
        mixed[one], mixed[other] = mixed[other], mixed[one]
        yield " ".join(mixed)
        yield " ".join(parts[:one] + parts[other:])


class TestWritten(unittest.TestCase):

    def test_examples(self):
        self.assertEqual(field_text(FIELD), FIELD_TEXT)
        self.assertEqual(world_text(FIELD, WORLD), WORLD_TEXT)
        self.assertEqual(rule_text(FIELD, RULE), RULE_TEXT)
        self.assertEqual(read_field(FIELD_TEXT), FIELD)
        self.assertEqual(read_world(FIELD, WORLD_TEXT), WORLD)
        self.assertEqual(read_rule(FIELD, RULE_TEXT), RULE)
        # Rows rise, so this one isn't written.
        self.assertIs(told_of(read_rule, FIELD, "likes 0 1 & kind 1 > kind 0"), NoText)

    def test_atoms_and_rows(self):
        self.assertEqual(atom_text(FIELD, KIND), "kind 0")
        self.assertEqual(atom_text(FIELD, CHAINED), "chain likes likes 0 1")
        self.assertEqual(row_text(FIELD, ()), "-")
        self.assertEqual(row_text(FIELD, (CHAINED, OTHER)), "chain likes likes 0 1 & kind 1")
        term = ("some", ("chain", "likes", ("not", "likes")))
        self.assertEqual(atom_text(DEEP, (term, (2,))), "some chain likes not likes 2")
        for field in EVERY:
            atoms = atoms_of(field)
            for atom in atoms:
                due = " ".join([term_text(field[0], atom[0])] + [str(unknown) for unknown in atom[1]])
                self.assertEqual(atom_text(field, atom), due)
                self.assertEqual(row_text(field, (atom,)), due)
            self.assertEqual(row_text(field, atoms), " & ".join(atom_text(field, atom) for atom in atoms))

    def test_rules(self):
        self.assertEqual(rule_text(FIELD, ((), (KIND, OTHER))), "- > kind 0 & kind 1")
        self.assertEqual(rule_text(FIELD, ((CHAINED,), (CHAINED,))), "chain likes likes 0 1 > chain likes likes 0 1")

    def test_worlds(self):
        self.assertEqual(world_text(FIELD, (1, ())), "1")
        self.assertEqual(world_text(FIELD, (5, (("likes", (4, 0)),))), "5 / likes 4 0")

    def test_fields(self):
        self.assertEqual(field_text(SINGLE), "likes 2, kind 1 ; kind ; 1")
        self.assertEqual(field_text(THREE), "kind 1 ; kind ; 3")
        self.assertEqual(field_text(FLAT), "wise 1, kind 1 ; wise, kind, not kind ; 3")
        due = "wise 1, near 2 ; either wise some near, both wise not wise, turned not near ; 2"
        self.assertEqual(field_text(WORDY), due)

    def test_refusals(self):
        check_refusals(self, atom_text, [(FIELD, NoField, is_field), (KIND, NoAtom, lambda part: is_atom(FIELD, part))])
        check_refusals(self, row_text, [(FIELD, NoField, is_field), ((KIND,), NoRow, lambda row: is_row(FIELD, row))])
        check_refusals(self, rule_text, [(FIELD, NoField, is_field), (RULE, NoRule, lambda rule: is_rule(FIELD, rule))])
        check_refusals(self, world_text, [
            (FIELD, NoField, is_field), (WORLD, NoWorld, lambda world: is_world(FIELD, world)),
        ])
        check_refusals(self, field_text, [(FIELD, NoField, is_field)])
        self.assertIs(told_of(row_text, FIELD, (LIKES, KIND)), NoRow)
        self.assertIs(told_of(rule_text, FIELD, ((LIKES, KIND), (KIND,))), NoRule)


class TestRead(unittest.TestCase):

    def test_read_back(self):
        for field in EVERY:
            self.assertEqual(read_field(field_text(field)), field)
            for rule in plain.some_rules(field, 20, ifs=6, thens=5):
                self.assertEqual(read_rule(field, rule_text(field, rule)), rule)
            for world in plain.some_worlds(field, 20):
                self.assertEqual(read_world(field, world_text(field, world)), world)
        atoms = atoms_of(DEEP)
        rule = (atoms[:20], atoms[16:])
        self.assertEqual(read_rule(DEEP, rule_text(DEEP, rule)), rule)

    def test_mangled(self):
        for text in mangled(RULE_TEXT):
            told = told_of(read_rule, FIELD, text)
            self.assertTrue(told is NoText or is_rule(FIELD, told) and rule_text(FIELD, told) == text, text)
        for text in mangled(WORLD_TEXT):
            told = told_of(read_world, FIELD, text)
            self.assertTrue(told is NoText or is_world(FIELD, told) and world_text(FIELD, told) == text, text)
        for field in (FIELD, WORDY, DEEP):
            for text in mangled(field_text(field)):
                told = told_of(read_field, text)
                self.assertTrue(told is NoText or is_field(told) and field_text(told) == text, text)

    def test_no_rules(self):
        atoms = atoms_of(DEEP)
        one = " & ".join(atom_text(DEEP, atom) for atom in atoms[:21])
        for text in (f"{one} > kind 0", f"kind 0 > {one}"):
            self.assertIs(told_of(read_rule, DEEP, text), NoText)
        for text in (
            "", " ", "-", ">", " > ", "- > -", "kind 0", "kind 0 > -", "kind 0 > ", " > kind 0", "kind 0 > kind 1 > kind 0",
            "kind 0  > kind 1", "kind 0 >  kind 1", "kind 0 > kind 1 ", " kind 0 > kind 1", "kind 0>kind 1",
            "kind 0 & > kind 1", "kind 0 & & kind 1 > kind 0", "kind 0 &kind 1 > kind 0", "kind 00 > kind 1",
            "kind 0 > kind 01", "kind 2 > kind 0", "kind  0 > kind 1", "kind 0 & kind 0 > kind 1", "kind 1 & kind 0 > kind 1",
            "likes 0 1 & kind 0 > kind 1", "> kind 0", "- & kind 0 > kind 1", "kind 0 & - > kind 1", "Kind 0 > kind 1",
            "kind > kind 1", "kind 0 0 > kind 1", "likes 0 > kind 1", "likes 01 > kind 1", "wise 0 > kind 1", "-  > kind 1",
            "not kind 0 > kind 1", "chain likes 0 1 > kind 1", "kind 0 > kind 1\n", "kind -1 > kind 0", "kind +1 > kind 0",
            "kind 0 & kind 1 > kind 1 & kind 0", "kind 0 -> kind 1", "kind \u0660 > kind 1", "--- > kind 1",
        ):
            self.assertIs(told_of(read_rule, FIELD, text), NoText, text)
        self.assertEqual(read_rule(FIELD, "- > kind 1"), ((), (OTHER,)))

    def test_no_worlds(self):
        for text in (
            "", " ", "0", "6", "01", "-1", "1 ", " 1", "2 /", "2 / ", "/ kind 0", "2 / kind", "2 / kind 2", "2 / kind 00",
            "2/ kind 0", "2 /kind 0", "2  / kind 0", "2 /  kind 0", "2 / kind  0", "2 / kind 1 / kind 0", "one", "1 / -",
            "2 / likes 0 1 / kind 0", "2 / kind 0 / kind 0", "2 / likes 0", "2 / likes 0 1 0", "2 / wise 0", "2 / Kind 0",
            "2 / chain likes likes 0 1", "2 / kind 0 /", "2 kind 0", "2 / kind 0 & likes 0 1", "2\n", "12", "2 / 2",
            "\u0662 / kind 0", "2 / kind \u0660", "1 / kind 1", "+2", "2 / / kind 0", "-",
        ):
            self.assertIs(told_of(read_world, FIELD, text), NoText, text)

    def test_no_fields(self):
        for text in (
            "", " ", " ; ", " ;  ; ", "kind 1 ; kind", "kind 1 ; kind ; 1 ; 1", "kind 1 ; kind ; 0", "kind 1 ; kind ; 4",
            "kind 1 ; kind ; 01", "kind 01 ; kind ; 1", "kind 3 ; kind ; 1", "kind 0 ; kind ; 1", "kind ; kind ; 1",
            "kind 1, kind 2 ; kind ; 1", "kind 1 ; kind, kind ; 1", "kind 1 ; wise ; 1", "kind 1 ;  kind ; 1",
            "kind 1  ; kind ; 1", "kind 1 ; kind ; 1 ", " kind 1 ; kind ; 1", "kind 1; kind ; 1", "kind 1 ; kind ;1",
            "kind  1 ; kind ; 1", "kind 1,wise 1 ; kind ; 1", "kind 1 , wise 1 ; kind ; 1", "kind 1, ; kind ; 1",
            "kind 1 ; kind, ; 1", "kind 1 ; , kind ; 1", "Kind 1 ; Kind ; 1", "not 1 ; not ; 1", "kind 1 ; not ; 1",
            "kind 1 ; not kind kind ; 1", "kind 1 ; both kind ; 1", "kind 1 ; turned kind ; 1", "kind 1 ; some kind ; 1",
            "kind 1 ; not not not not kind ; 1", "likes 2 ; both likes some likes ; 1", "likes 2 ; likes, not likes ; 3",
            "abcdefghi 1 ; abcdefghi ; 1", "a 1, b 1, c 1, d 1 ; a ; 1", "kind 1 ; ; 1", "kind 1 ; - ; 1", "- ; kind ; 1",
            "kind 1 ; kind ; one", "kind 1 1 ; kind ; 1", "kind 1 ; kind ; 1\n", "kind 1 ; kind kind ; 1", "kind 1 ; kind ; -",
            "kind \u0661 ; kind ; 1", "kind 1 ; not  kind ; 1", "kind 1 ; either kind  kind ; 1", " 1 ;  ; 1",
        ):
            self.assertIs(told_of(read_field, text), NoText, text)
        self.assertEqual(read_field("kind 1 ; not not not kind ; 1")[1], (("not", ("not", ("not", "kind"))),))
        self.assertEqual(read_field("kind 1 ; kind, not kind ; 3"), ((("kind", 1),), ("kind", ("not", "kind")), 3))

    def test_very_many_words(self):
        for part in ("not ", "both ", "kind 0 & ", "kind 0 > ", "kind 1 / ", "2 / ", "kind 1, ", "kind, ", " ; ", " ", "0", "a"):
            for text in (part * 40000, part * 40000 + "kind", "kind 1 ; " + part * 40000 + " ; 1", "2 / " + part * 40000):
                self.assertIs(told_of(read_rule, FIELD, text), NoText)
                self.assertIs(told_of(read_world, FIELD, text), NoText)
                self.assertIs(told_of(read_field, text), NoText)

    def test_refusals(self):
        for call in (read_rule, read_world):
            check_refusals(self, call, [
                (FIELD, NoField, is_field), (RULE_TEXT if call == read_rule else WORLD_TEXT, NoText, lambda thing: False),
            ])
        for thing in any_things():
            self.assertIs(told_of(read_field, thing), NoText, thing)
            due = NoText if is_field(thing) else NoField
            self.assertIs(told_of(read_rule, thing, "x"), due, thing)
            self.assertIs(told_of(read_world, thing, None), due, thing)

    def test_of_another_field(self):
        self.assertIs(told_of(read_rule, BROAD, "chain likes likes 0 1 > kind 0"), NoText)
        self.assertEqual(read_rule(BROAD, "near 0 1 > kind 0"), (((("near", (0, 1)),)), (KIND,)))
        self.assertIs(told_of(read_world, FIELD, "2 / near 0 1"), NoText)
        self.assertEqual(read_world(BROAD, "2 / near 0 1"), (2, (("near", (0, 1)),)))


if __name__ == "__main__":
    unittest.main()
