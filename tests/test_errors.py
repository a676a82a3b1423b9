"""The error classes of the interface."""

import unittest

from setsays import errors

NAMES = ("NoText", "NoFrame", "NoSaying", "NoRow", "NoTree", "NoWidth", "NoNumber", "TooGreat", "NoLine")


class ErrorsTest(unittest.TestCase):

    def test_say_error_stands_straight_under_value_error(self):
        self.assertEqual(errors.SayError.__bases__, (ValueError,))

    def test_each_refusal_stands_straight_under_say_error(self):
        for name in NAMES:
            with self.subTest(name):
                self.assertEqual(getattr(errors, name).__bases__, (errors.SayError,))

    def test_each_refusal_is_caught_as_say_error_and_value_error(self):
        for name in NAMES:
            for base in (errors.SayError, ValueError):
                with self.subTest(name=name, base=base):
                    with self.assertRaises(base):
                        raise getattr(errors, name)("refused")

    def test_no_refusal_stands_under_another(self):
        for one in NAMES:
            for other in NAMES:
                with self.subTest(one=one, other=other):
                    under = issubclass(getattr(errors, one), getattr(errors, other))
                    self.assertIs(under, one == other)

    def test_say_error_is_none_of_the_refusals(self):
        for name in NAMES:
            with self.subTest(name):
                self.assertFalse(issubclass(errors.SayError, getattr(errors, name)))


if __name__ == "__main__":
    unittest.main()
