"""Promises [1.1] and [1.2]."""

import unittest

from tests.samples import all_kinds
from touchrows import errors

OF_ARGUMENTS = (
    "InvalidRatio", "InvalidQuestion", "InvalidRow", "InvalidStore", "InvalidView", "InvalidPlan",
    "InvalidWeights", "InvalidOperation", "ParseError",
)
OTHERS = {
    "UnknownName": (KeyError, "word"),
    "RowThere": (LookupError, "placed"),
    "RowAbsent": (LookupError, "missed"),
    "InvalidNumber": (IndexError, "value"),
    "NothingToUndo": (RuntimeError, "many"),
    "TooMany": (OverflowError, "limit"),
    "Refused": (ArithmeticError, "pledge"),
}


class Families(unittest.TestCase):
    def test_touch_error_is_a_value_error(self):
        self.assertEqual(errors.TouchError.__bases__, (ValueError,))

    def test_errors_of_arguments_are_touch_errors_directly(self):
        for name in OF_ARGUMENTS:
            with self.subTest(name):
                self.assertEqual(getattr(errors, name).__bases__, (errors.TouchError,))

    def test_errors_of_arguments_are_not_derived_from_one_another(self):
        for name in OF_ARGUMENTS:
            for other in OF_ARGUMENTS:
                derived = issubclass(getattr(errors, name), getattr(errors, other))
                self.assertIs(derived, name == other, (name, other))

    def test_other_errors_are_derived_directly(self):
        for name, (base, _) in OTHERS.items():
            with self.subTest(name):
                self.assertEqual(getattr(errors, name).__bases__, (base,))

    def test_other_errors_are_no_touch_errors(self):
        for name in OTHERS:
            self.assertFalse(issubclass(getattr(errors, name), errors.TouchError), name)

    def test_row_errors_are_no_key_errors(self):
        for name in ("RowThere", "RowAbsent"):
            self.assertFalse(issubclass(getattr(errors, name), (KeyError, IndexError)), name)

    def test_a_touch_error_is_caught_as_a_value_error(self):
        for name in OF_ARGUMENTS[:-1]:
            with self.assertRaises(ValueError):
                raise getattr(errors, name)("why")


class Kept(unittest.TestCase):
    def test_each_error_keeps_what_it_takes(self):
        for name, (_, attribute) in OTHERS.items():
            for value in all_kinds():
                with self.subTest(name, value=value):
                    self.assertIs(getattr(getattr(errors, name)(value), attribute), value)

    def test_parse_error_keeps_its_number(self):
        for number in (None, 0, 1, 17):
            self.assertIs(errors.ParseError(number).number, number)

    def test_the_others_take_a_message(self):
        for name in ("TouchError",) + OF_ARGUMENTS[:-1]:
            self.assertIsInstance(getattr(errors, name)("some message"), errors.TouchError)

    def test_one_value_is_taken_and_no_more(self):
        for name in (*OTHERS, "ParseError"):
            for given in ((), (1, 2)):
                with self.subTest(name), self.assertRaises(TypeError):
                    getattr(errors, name)(*given)
