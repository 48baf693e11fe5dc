"""The refusals, as the interface lists them."""

import unittest

from lorestead import errors

BY_TEXT = (
    "NoNotions", "NoTerm", "NoField", "NoAtom", "NoRow", "NoRenaming", "NoWorld", "NoWay", "NoRule", "NoSituation",
    "NoTheory", "NoWalk", "NoMost", "TooWide", "Unlike", "NoDeed", "NoText", "NoLine",
)
BY_NUMBER = ("NoGround", "Broken", "Breaks")


class TestErrors(unittest.TestCase):

    def test_lore_error_is_a_value_error(self):
        self.assertEqual(errors.LoreError.__bases__, (ValueError,))
        self.assertEqual(str(errors.LoreError("a text")), "a text")

    def test_each_stands_right_under_lore_error(self):
        for name in BY_TEXT + BY_NUMBER:
            self.assertEqual(getattr(errors, name).__bases__, (errors.LoreError,), name)

    def test_none_stands_under_another(self):
        every = [getattr(errors, name) for name in BY_TEXT + BY_NUMBER + ("NoNumber",)]
        self.assertEqual(len(set(every)), 22)
        for one in every:
            for other in every:
                self.assertEqual(issubclass(one, other), one is other)

    def test_made_of_a_text(self):
        for name in BY_TEXT:
            with self.assertRaises(errors.LoreError) as caught:
                raise getattr(errors, name)("why it is refused")
            self.assertEqual(str(caught.exception), "why it is refused")
            self.assertIs(type(caught.exception), getattr(errors, name))

    def test_made_of_a_number(self):
        for name in BY_NUMBER:
            for number in (0, 7, 299, 10 ** 39):
                with self.assertRaises(errors.LoreError) as caught:
                    raise getattr(errors, name)(number)
                self.assertEqual(caught.exception.number, number)
                self.assertIsInstance(str(caught.exception), str)

    def test_no_number_is_a_lookup_error(self):
        self.assertEqual(errors.NoNumber.__bases__, (LookupError,))
        self.assertFalse(issubclass(errors.NoNumber, (errors.LoreError, ValueError)))
        for number in (0, 12, -3):
            with self.assertRaises(LookupError) as caught:
                raise errors.NoNumber(number)
            self.assertEqual(caught.exception.number, number)
            self.assertIsInstance(str(caught.exception), str)

    def test_numbers_are_kept_by_each_by_itself(self):
        one, other = errors.Broken(1), errors.Broken(2)
        self.assertEqual((one.number, other.number), (1, 2))


if __name__ == "__main__":
    unittest.main()
