"""The refusals: kindturn/errors.py of the interface."""

import unittest

from kindturn import errors

REFUSALS = ["NotRead", "NoTurning", "NoNumber", "NoThing", "Unlike"]


class Errors(unittest.TestCase):
    def test_kind_error_stands_under_value_error_alone(self):
        self.assertEqual(errors.KindError.__bases__, (ValueError,))

    def test_each_refusal_stands_under_kind_error_alone(self):
        for name in REFUSALS:
            with self.subTest(name):
                self.assertEqual(getattr(errors, name).__bases__, (errors.KindError,))

    def test_no_refusal_is_another_one(self):
        for name in REFUSALS:
            for other in REFUSALS:
                with self.subTest(name=name, other=other):
                    under = issubclass(getattr(errors, name), getattr(errors, other))
                    self.assertEqual(under, name == other)

    def test_each_class_bears_its_name(self):
        for name in REFUSALS + ["KindError"]:
            self.assertEqual(getattr(errors, name).__name__, name)

    def test_each_can_be_raised_with_words(self):
        for name in REFUSALS + ["KindError"]:
            with self.subTest(name):
                with self.assertRaises(ValueError) as caught:
                    raise getattr(errors, name)("some words")
                self.assertEqual(str(caught.exception), "some words")


if __name__ == "__main__":
    unittest.main()
