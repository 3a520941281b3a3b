"""The error classes: what each is under, and its attribute."""

import unittest

from firstmade import errors
from tests.odd_values import odd_values

UNDER_MADE_ERROR = (
    ("NoValue", "word"), ("NoSwitch", "word"), ("NoBook", "value"), ("NoSetting", "word"),
    ("NoMove", "index"), ("NothingBack", "many"), ("NoName", "name"), ("NoNet", "name"),
    ("NoTable", "states"), ("NoChange", "at"), ("NoPick", "pick"), ("NoNote", "line"),
    ("NoNumber", "value"), ("NoFault", "word"), ("Failing", "why"),
)
UNDER_OTHERS = (("TooMany", OverflowError, "most"), ("NoHand", KeyError, "hand"), ("Failed", RuntimeError, "why"))


def all_kinds():
    rows = [(getattr(errors, name), errors.MadeError, word) for name, word in UNDER_MADE_ERROR]
    return rows + [(getattr(errors, name), base, word) for name, base, word in UNDER_OTHERS]


class TestErrors(unittest.TestCase):
    def test_made_error_is_directly_under_value_error(self):
        self.assertEqual(errors.MadeError.__bases__, (ValueError,))
        with self.assertRaises(ValueError):
            raise errors.MadeError("why")

    def test_each_is_directly_under_its_base(self):
        for kind, base, _ in all_kinds():
            with self.subTest(kind=kind):
                self.assertEqual(kind.__bases__, (base,))

    def test_none_is_under_another_one(self):
        kinds = [kind for kind, _, _ in all_kinds()]
        self.assertEqual(len(set(kinds)), 18)
        for kind in kinds:
            for other in kinds:
                self.assertEqual(issubclass(kind, other), kind is other)

    def test_the_three_others_are_no_made_errors(self):
        for kind in (errors.TooMany, errors.NoHand, errors.Failed):
            self.assertFalse(issubclass(kind, errors.MadeError))

    def test_the_argument_is_the_attribute(self):
        for kind, base, word in all_kinds():
            for value in odd_values():
                with self.subTest(kind=kind):
                    self.assertIs(getattr(kind(value), word), value)
                    self.assertIs(getattr(kind(**{word: value}), word), value)

    def test_raised_and_caught_by_the_base(self):
        for kind, base, word in all_kinds():
            with self.assertRaises(base) as caught:
                raise kind("told")
            self.assertIs(type(caught.exception), kind)
            self.assertEqual(getattr(caught.exception, word), "told")

    def test_an_argument_is_needed(self):
        for kind, _, _ in all_kinds():
            with self.subTest(kind=kind):
                self.assertRaises(TypeError, kind)


if __name__ == "__main__":
    unittest.main()
