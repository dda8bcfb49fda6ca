"""Integers as texts: the canonical form, and lengths that Python itself does not convert."""

import unittest

from touchrows.base.figures import integer_in, written


class Figures(unittest.TestCase):
    def test_as_python_writes(self):
        for number in (0, 1, 9, 10, 10 ** 59, 10 ** 60 - 1, 10 ** 60, 10 ** 60 + 7, 10 ** 120, 10 ** 120 - 1, 3 ** 700):
            for signed in (number, -number):
                self.assertEqual(written(signed), str(signed))
                self.assertEqual(integer_in(str(signed)), signed)

    def test_beyond_what_python_converts(self):
        self.assertEqual(written(10 ** 9000), "1" + "0" * 9000)
        self.assertEqual(written(-10 ** 9000 - 5), "-1" + "0" * 8999 + "5")
        for number in (7 ** 9000, -7 ** 9000, 10 ** 9000 - 1):
            self.assertEqual(integer_in(written(number)), number)

    def test_texts_of_no_integer(self):
        for text in ("", "-", "--1", "-0", "00", "01", "-01", "+1", " 1", "1 ", "1\n", "1_0", "0x1", "1.0", "1e3", "a"):
            self.assertIsNone(integer_in(text), text)

    def test_figures_of_other_scripts(self):
        for text in ("\u00b2", "\u0663", "1\u0663", "\uff11"):
            self.assertIsNone(integer_in(text), text)
