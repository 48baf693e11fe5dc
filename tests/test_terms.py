"""Names, notions, terms, their places, parts and texts."""

import unittest

from lorestead.errors import NoNotions, NoTerm
from lorestead.fields.terms import is_notions, is_term, parts_of, places_of, term_text
from tests.things import CHAIN, NOTIONS, any_things, told_of

WORDS = ("not", "both", "either", "turned", "chain", "some")


def rows_of_places():
    """Each term of NOTIONS with at most two tuples within one another, and its places, by the document's rows."""
    known = dict(NOTIONS)
    for _ in range(2):
        more = dict(NOTIONS)
        for one, places in known.items():
            more[("not", one)] = places
            if places == 2:
                more[("turned", one)] = 2
                more[("some", one)] = 1
            for other, others in known.items():
                if places == others:
                    more[("both", one, other)] = more[("either", one, other)] = places
                if places == others == 2:
                    more[("chain", one, other)] = 2
        known = more
    return known


def all_trees():
    """Whatever is made of words, one or two parts each, two levels high: terms and what is none."""
    known = ["likes", "kind"]
    for _ in range(2):
        more = ["likes", "kind"]
        for word in WORDS:
            more += [(word, one) for one in known]
            more += [(word, one, other) for one in known for other in known]
        known = more
    return known


class TestNotions(unittest.TestCase):

    def test_names(self):
        for name in ("a", "z", "likes", "abcdefgh", "nots", "cha", "bothboth", "turn"):
            self.assertIs(is_notions(((name, 1),)), True, name)
        wrong = ["", "abcdefghi", "Likes", "likeS", "a b", " a", "a ", "a1", "1", "a_b", "a-b", "a&", "~", "a\n"]
        wrong += ["\u00e9", "\u00df", "a\u0301"]
        for name in wrong + list(WORDS):
            self.assertIs(is_notions(((name, 1),)), False, name)
        for name in (1, None, True, ("a",), ["a"], {"a": 1}):
            self.assertIs(is_notions(((name, 1),)), False, name)

    def test_how_many(self):
        three = (("a", 1), ("b", 2), ("c", 1))
        for many in (1, 2, 3):
            self.assertIs(is_notions(three[:many]), True)
        self.assertIs(is_notions(()), False)
        self.assertIs(is_notions(three + (("d", 1),)), False)

    def test_names_are_unlike(self):
        self.assertIs(is_notions((("a", 1), ("a", 1))), False)
        self.assertIs(is_notions((("a", 1), ("a", 2))), False)
        self.assertIs(is_notions((("a", 1), ("b", 2), ("a", 1))), False)
        self.assertIs(is_notions((("b", 1), ("a", 1))), True)

    def test_places(self):
        for places in (1, 2):
            self.assertIs(is_notions((("a", places),)), True)
        for places in (0, 3, -1, 10 ** 39, True, False, None, "1", "2", (1,), [2], {}):
            self.assertIs(is_notions((("a", places),)), False, places)

    def test_tuples_alone(self):
        for wrong in ([("a", 1)], (["a", 1],), {"a": 1}, ("a", 1), (("a",),), (("a", 1, 1),), ((),), "a1", ("a1",)):
            self.assertIs(is_notions(wrong), False, wrong)

    def test_anything(self):
        for thing in any_things():
            self.assertIs(told_of(is_notions, thing), thing is NOTIONS, thing)


class TestTerms(unittest.TestCase):

    def test_each_kind(self):
        right = {
            "likes": 2, "kind": 1,
            ("not", "likes"): 2, ("not", "kind"): 1,
            ("both", "likes", "likes"): 2, ("both", "kind", "kind"): 1,
            ("either", "likes", "likes"): 2, ("either", "kind", "kind"): 1,
            ("turned", "likes"): 2, ("chain", "likes", "likes"): 2, ("some", "likes"): 1,
            ("both", ("some", "likes"), "kind"): 1, ("chain", ("turned", "likes"), "likes"): 2,
        }
        for term, places in right.items():
            self.assertIs(is_term(NOTIONS, term), True, term)
            self.assertEqual(places_of(NOTIONS, term), places, term)
            self.assertIs(type(places_of(NOTIONS, term)), int)

    def test_wrong_places(self):
        wrong = [("both", "likes", "kind"), ("both", "kind", "likes"), ("either", "likes", "kind")]
        wrong += [("turned", "kind"), ("some", "kind"), ("chain", "likes", "kind"), ("chain", "kind", "likes")]
        wrong += [("chain", "kind", "kind"), ("turned", ("some", "likes")), ("some", ("some", "likes"))]
        wrong += [("both", ("some", "likes"), "likes"), ("not", ("turned", "kind"))]
        for thing in wrong:
            self.assertIs(is_term(NOTIONS, thing), False, thing)

    def test_wrong_forms(self):
        wrong = ["other", "not", "", "likes likes", "Likes", ("likes",), ("not",), ("not", "likes", "likes"), ("not", "a")]
        wrong += [("both", "likes"), ("both", "kind", "kind", "kind"), ("turned", "likes", "likes"), ("some",), ()]
        wrong += [["not", "likes"], ("not", ["not", "likes"]), ("chain", "likes"), ("some", "likes", "likes")]
        wrong += [("kind", "likes"), ("Not", "likes"), ([], "likes"), ({}, "likes"), ("not", {}), ("not", None)]
        for thing in wrong:
            self.assertIs(is_term(NOTIONS, thing), False, thing)

    def test_three_tuples_within_one_another(self):
        three = ("not", ("not", ("not", "likes")))
        self.assertIs(is_term(NOTIONS, three), True)
        self.assertIs(is_term(NOTIONS, ("not", three)), False)
        wide = ("both", ("both", ("both", "kind", "kind"), "kind"), "kind")
        self.assertIs(is_term(NOTIONS, wide), True)
        self.assertIs(is_term(NOTIONS, ("both", wide, "kind")), False)
        self.assertIs(is_term(NOTIONS, ("both", "kind", wide)), False)
        self.assertIs(is_term(NOTIONS, ("both", ("not", "kind"), wide)), False)
        self.assertEqual(places_of(NOTIONS, ("some", ("chain", ("turned", "likes"), "likes"))), 1)

    def test_all_trees(self):
        known = rows_of_places()
        trees = all_trees()
        self.assertGreater(len(trees), 8000)
        found = [tree for tree in trees if is_term(NOTIONS, tree)]
        self.assertEqual(len(found), len(known))
        for term in found:
            self.assertEqual(places_of(NOTIONS, term), known[term])

    def test_other_notions(self):
        self.assertIs(is_term((("kind", 2),), "likes"), False)
        self.assertIs(is_term((("kind", 2),), ("turned", "kind")), True)
        self.assertIs(is_term((("kind", 1),), ("turned", "kind")), False)

    def test_anything(self):
        for thing in any_things():
            is_right = thing in ("likes", ("not", "likes"))
            self.assertIs(told_of(is_term, NOTIONS, thing), is_right, thing)
            for call in (places_of, parts_of, term_text):
                self.assertIs(told_of(call, NOTIONS, thing) is NoTerm, not is_right, thing)


class TestParts(unittest.TestCase):

    def test_a_name(self):
        self.assertEqual(parts_of(NOTIONS, "kind"), ("kind",))

    def test_each_once_by_texts(self):
        self.assertEqual(parts_of(NOTIONS, CHAIN), (CHAIN, "likes"))
        term = ("both", ("some", "likes"), ("not", ("some", "likes")))
        parts = (term, "likes", ("not", ("some", "likes")), ("some", "likes"))
        self.assertEqual(parts_of(NOTIONS, term), parts)

    def test_no_words_and_no_other_names(self):
        self.assertEqual(parts_of(NOTIONS, ("not", "kind")), ("kind", ("not", "kind")))

    def test_blanks_stand_ahead_of_letters(self):
        notions = (("nota", 1), ("a", 1))
        term = ("both", "nota", ("not", "a"))
        self.assertEqual(parts_of(notions, term), ("a", term, ("not", "a"), "nota"))

    def test_many_terms(self):
        for term in rows_of_places():
            parts = parts_of(NOTIONS, term)
            texts = [term_text(NOTIONS, part) for part in parts]
            self.assertEqual(texts, sorted(set(texts)))
            self.assertIn(term, parts)
            within = [part for part in parts if isinstance(part, tuple)]
            for part in within:
                self.assertTrue(set(part[1:]) <= set(parts))
            reached = {part for whole in within for part in whole[1:]} | {term}
            self.assertEqual(set(parts), reached)


class TestTexts(unittest.TestCase):

    def test_texts(self):
        self.assertEqual(term_text(NOTIONS, "likes"), "likes")
        self.assertEqual(term_text(NOTIONS, CHAIN), "chain likes likes")
        term = ("either", ("some", ("turned", "likes")), ("not", "kind"))
        self.assertEqual(term_text(NOTIONS, term), "either some turned likes not kind")

    def test_unlike_terms_have_unlike_texts(self):
        terms = list(rows_of_places())
        self.assertEqual(len({term_text(NOTIONS, term) for term in terms}), len(terms))


class TestRefusals(unittest.TestCase):

    def test_notions_go_first(self):
        for call in (is_term, places_of, parts_of, term_text):
            for thing in any_things():
                if thing is NOTIONS:
                    continue
                self.assertIs(told_of(call, thing, "likes"), NoNotions, thing)
                self.assertIs(told_of(call, thing, thing), NoNotions, thing)

    def test_the_same_again(self):
        for call in (is_term, places_of, parts_of, term_text):
            self.assertEqual(call(NOTIONS, CHAIN), call(NOTIONS, CHAIN))


if __name__ == "__main__":
    unittest.main()
