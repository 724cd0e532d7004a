"""The refusals, as the interface lists them for swapmart/errors.py."""

import unittest

from swapmart import errors

NAMES = ["NoFit", "NoPart", "NoTariff", "TooMany", "Endless", "NoText", "NoName", "NoRow", "Twice"]


class TestErrors(unittest.TestCase):

    def test_mart_error_is_a_value_error(self):
        self.assertTrue(issubclass(errors.MartError, ValueError))

    def test_each_is_under_mart_error(self):
        for name in NAMES:
            with self.subTest(name):
                kind = getattr(errors, name)
                self.assertTrue(issubclass(kind, errors.MartError))
                self.assertTrue(issubclass(kind, ValueError))
                self.assertFalse(issubclass(errors.MartError, kind))

    def test_none_is_under_another_one(self):
        for name in NAMES:
            for other in NAMES:
                with self.subTest(name, other=other):
                    below = issubclass(getattr(errors, name), getattr(errors, other))
                    self.assertEqual(below, name == other)

    def test_none_is_an_error_of_another_sort(self):
        for name in NAMES + ["MartError"]:
            with self.subTest(name):
                self.assertFalse(issubclass(getattr(errors, name), (LookupError, TypeError, UnicodeError)))

    def test_each_is_made_of_a_text_and_raised(self):
        for name in NAMES + ["MartError"]:
            for text in ["", "why it is refused"]:
                with self.subTest(name, text=text):
                    kind = getattr(errors, name)
                    with self.assertRaises(kind) as caught:
                        raise kind(text)
                    self.assertEqual(str(caught.exception), text)

    def test_each_is_named_and_defined_there(self):
        for name in NAMES + ["MartError"]:
            with self.subTest(name):
                self.assertEqual(getattr(errors, name).__name__, name)
                self.assertEqual(getattr(errors, name).__module__, "swapmart.errors")


if __name__ == "__main__":
    unittest.main()
