"""Integers as texts: the canonical form, the lengths that are read, and those that Python itself does not write."""

import unittest

from touchrows.base.figures import integer_in, written


class Figures(unittest.TestCase):
    def test_as_python_writes(self):
        for number in (0, 1, 9, 10, 10 ** 59, 10 ** 60 - 1, 10 ** 60, 10 ** 60 + 7, 10 ** 120, 10 ** 120 - 1, 3 ** 700):
            for signed in (number, -number):
                self.assertEqual(written(signed), str(signed))

    def test_both_ways(self):
        for number in (0, 1, 9, 10, 12, 99, 100, 10 ** 30 + 7):
            for signed in (number, -number):
                self.assertEqual(integer_in(str(signed)), signed)

    def test_beyond_what_python_converts(self):
        self.assertEqual(written(10 ** 9000), "1" + "0" * 9000)
        self.assertEqual(written(-10 ** 9000 - 5), "-1" + "0" * 8999 + "5")

    def test_sixty_digits_are_read(self):
        for number in (10 ** 59, 10 ** 60 - 1, 1 - 10 ** 60):
            self.assertEqual(integer_in(str(number)), number)
        for number in (10 ** 60, -10 ** 60, 10 ** 60 + 7, 10 ** 120 - 1):
            self.assertIsNone(integer_in(str(number)))
        for text in ("9" * 61, "-" + "9" * 61, "0" * 61, "0" * 60 + "1", "9" * 4000, "-" + "9" * 9000, written(7 ** 9000)):
            self.assertIsNone(integer_in(text))

    def test_texts_of_no_integer(self):
        for text in ("", "-", "--1", "-0", "00", "01", "-01", "+1", " 1", "1 ", "1\n", "1_0", "0x1", "1.0", "1e3", "a"):
            self.assertIsNone(integer_in(text), text)

    def test_figures_of_other_scripts(self):
        for text in ("\u00b2", "\u0663", "1\u0663", "\uff11"):
            self.assertIsNone(integer_in(text), text)
