"""The names and arguments that the interface lists, each in the file under which it is listed."""

import inspect
import unittest
from importlib import import_module

LISTED = {
    "lorestead.fields.terms": {
        "is_notions": "(thing)", "is_term": "(notions, thing)", "places_of": "(notions, term)",
        "parts_of": "(notions, term)", "term_text": "(notions, term)",
    },
    "lorestead.fields.fields": {
        "is_field": "(thing)", "terms_of": "(field)", "atoms_of": "(field, *, shown=False)",
        "is_atom": "(field, thing, *, shown=False)", "place_of": "(field, atom)",
    },
    "lorestead.fields.renamings": {
        "is_row": "(field, thing, *, shown=False)", "row_of": "(field, atoms)", "is_ahead": "(field, row, thing)",
        "renamings": "(many)", "renamed_atom": "(field, atom, renaming)", "renamed_row": "(field, row, renaming)",
        "least_row": "(field, row)", "kinds_of": "(field, row)", "are_alike": "(field, row, thing)",
    },
}


class TestInterface(unittest.TestCase):

    def test_functions_stand_where_they_are_listed(self):
        for file, functions in LISTED.items():
            module = import_module(file)
            for name, arguments in functions.items():
                function = getattr(module, name)
                self.assertEqual(function.__module__, file, name)
                self.assertEqual(str(inspect.signature(function)), arguments, name)


if __name__ == "__main__":
    unittest.main()
