"""The errors of the interface."""

import unittest

from loosemarks import errors

REFUSALS = ("NoPile", "NoRow", "NoMove", "TooGreat", "Below", "NoText")


class TestErrors(unittest.TestCase):
    def test_mark_error_is_right_under_value_error(self):
        self.assertEqual(errors.MarkError.__bases__, (ValueError,))

    def test_each_refusal_is_right_under_mark_error(self):
        for name in REFUSALS:
            with self.subTest(name):
                self.assertEqual(getattr(errors, name).__bases__, (errors.MarkError,))

    def test_refusals_are_classes_of_their_own(self):
        for name in REFUSALS:
            for other in REFUSALS:
                if name != other:
                    with self.subTest(name, other=other):
                        self.assertFalse(issubclass(getattr(errors, name), getattr(errors, other)))

    def test_each_is_defined_under_its_name_in_its_file(self):
        for name in ("MarkError",) + REFUSALS:
            with self.subTest(name):
                self.assertEqual(getattr(errors, name).__name__, name)
                self.assertEqual(getattr(errors, name).__module__, "loosemarks.errors")

    def test_any_refusal_can_be_raised_and_caught(self):
        for name in REFUSALS:
            with self.subTest(name):
                with self.assertRaises(errors.MarkError) as caught:
                    raise getattr(errors, name)("why")
                self.assertEqual(str(caught.exception), "why")


if __name__ == "__main__":
    unittest.main()
