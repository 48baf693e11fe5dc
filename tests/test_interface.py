"""The names and arguments that the interface lists, each in the file under which it is listed."""

import inspect
import unittest
from importlib import import_module

LISTED = {
    "lorestead.fields.terms": {
        "is_notions": "(thing)", "is_term": "(notions, thing)", "places_of": "(notions, term)",
        "parts_of": "(notions, term)", "term_text": "(notions, term)",
    },
    "lorestead.fields.fields": {
        "is_field": "(thing)", "terms_of": "(field)", "atoms_of": "(field, *, shown=False)",
        "is_atom": "(field, thing, *, shown=False)", "place_of": "(field, atom)",
    },
    "lorestead.fields.renamings": {
        "is_row": "(field, thing, *, shown=False)", "row_of": "(field, atoms)", "is_ahead": "(field, row, thing)",
        "renamings": "(many)", "renamed_atom": "(field, atom, renaming)", "renamed_row": "(field, row, renaming)",
        "least_row": "(field, row)", "kinds_of": "(field, row)", "are_alike": "(field, row, thing)",
    },
    "lorestead.worlds.worlds": {
        "is_world": "(field, thing)", "holds_of": "(field, world, term, things)", "least_world": "(field, world)",
        "are_like": "(field, world, thing)",
    },
    "lorestead.worlds.ways": {
        "is_way": "(field, world, thing)", "ways_of": "(field, world)",
        "atoms_by": "(field, world, way, *, shown=True)", "situations_of": "(field, world)",
    },
    "lorestead.rules.rules": {
        "is_rule": "(field, thing, *, shown=False)", "renamed_rule": "(field, rule, renaming)",
        "least_rule": "(field, rule)", "is_rule_ahead": "(field, rule, thing)", "holds_in": "(field, world, rule)",
        "break_of": "(field, world, rule)", "covers": "(field, one, other)",
    },
    "lorestead.worlds.small": {
        "small_worlds": "(field, things, *, rules=())", "many_small": "(field, things, *, rules=())",
        "breaker_of": "(field, rule, *, rules=(), most=3)",
    },
    "lorestead.theories.giving": {
        "told_by_terms": "(field, row)", "given_of": "(field, row, *, rules=())", "is_whole": "(field, thing)",
    },
    "lorestead.theories.theories": {"Theory": "(field, *, rules=(), worlds=None, situations=None)"},
    "lorestead.theories.walks": {
        "walk_to": "(field, rules, rule)", "shows_walk": "(field, rules, rule, thing)",
        "thinned_walk": "(field, rules, rule, walk)", "rounds_of": "(field, rules, rule)",
    },
    "lorestead.theories.verdicts": {
        "verdict_on": "(field, rule, *, rules=(), most=3)",
        "shows_verdict": "(field, rule, thing, *, rules=(), most=3)",
    },
    "lorestead.theories.closed": {
        "closed_of": "(theory)", "closed_at": "(theory, number)", "number_of": "(theory, situation)",
        "kinds_closed": "(theory)", "above_of": "(theory, situation)", "height_of": "(theory)",
    },
    "lorestead.lists.fewest": {
        "keeps": "(theory, rules, *, ground=())", "spare_of": "(theory, rules, *, ground=())",
        "are_stakes": "(theory, thing, *, ground=())", "fewest_of": "(theory, *, ground=())",
        "shows_fewest": "(theory, thing, *, ground=())",
    },
    "lorestead.lists.zoo": {
        "zoo_of": "(theory)", "shows_zoo": "(theory, thing)", "breaks_in": "(field, situations, rule)",
        "is_plain": "(field)", "world_of": "(field, situation)",
    },
    "lorestead.lists.primes": {
        "is_prime": "(theory, thing)", "found_rules": "(theory)", "uses_of": "(field, rules, *, ground=())",
        "book_of": "(theory, *, ground=())", "shows_book": "(theory, thing, *, ground=())",
    },
    "lorestead.lists.two": {
        "joined_of": "(one, other)", "shared_of": "(one, other)", "compared_of": "(one, other)",
        "shows_compared": "(one, other, thing)", "news_of": "(one, other)",
    },
    "lorestead.house.house": {"House": "(field, *, most=3)"},
    "lorestead.words.texts": {
        "atom_text": "(field, atom)", "row_text": "(field, row)", "rule_text": "(field, rule)",
        "world_text": "(field, world)", "field_text": "(field)", "read_rule": "(field, text)",
        "read_world": "(field, text)", "read_field": "(text)",
    },
    "lorestead.words.desk": {"Desk": "()"},
}
METHODS = {
    "lorestead.theories.theories": {
        "Theory": {
            "field": "(self)", "rules": "(self)", "worlds": "(self)", "situations": "(self)",
            "closure": "(self, situation)", "has": "(self, rule)", "is_closed": "(self, thing)",
            "__eq__": "(self, other)", "__len__": "(self)", "__repr__": "(self)",
        },
    },
    "lorestead.house.house": {
        "House": {
            "assume": "(self, rule)", "show": "(self, world)", "forget": "(self, number)", "hide": "(self, number)",
            "explore": "(self)", "back": "(self)", "all_of": "(self, deeds)", "rules": "(self)", "worlds": "(self)",
            "guesses": "(self)", "verdict": "(self, rule)", "theory": "(self, *, seen=False)", "log": "(self)",
            "is_busy": "(self)", "__eq__": "(self, other)", "__len__": "(self)", "__repr__": "(self)",
        },
    },
    "lorestead.words.desk": {
        "Desk": {
            "say": "(self, row)", "many": "(self, rows)", "log": "(self)", "is_busy": "(self)", "__len__": "(self)",
        },
    },
}


class TestInterface(unittest.TestCase):

    def test_functions_stand_where_they_are_listed(self):
        for file, functions in LISTED.items():
            module = import_module(file)
            for name, arguments in functions.items():
                function = getattr(module, name)
                self.assertEqual(function.__module__, file, name)
                self.assertEqual(str(inspect.signature(function)), arguments, name)

    def test_methods_stand_in_their_class_itself(self):
        for file, classes in METHODS.items():
            for name, methods in classes.items():
                held = vars(getattr(import_module(file), name))
                for method, arguments in methods.items():
                    self.assertEqual(str(inspect.signature(held[method])), arguments, (name, method))


if __name__ == "__main__":
    unittest.main()
