"""Promises [0.1], [0.5], [0.7]: integers, counts, names."""

import unittest

from tests.samples import LONGEST, Strict, all_kinds
from touchrows.base import words
from touchrows.base.words import is_ascending_names, is_count, is_integer, is_name


class Integers(Strict, unittest.TestCase):
    def test_integers(self):
        for value in (0, 1, -1, 2001, -7, LONGEST, -LONGEST):
            self.assertIs(is_integer(value), True, value)

    def test_sixty_one_digits_are_too_many(self):
        for value in (LONGEST + 1, -LONGEST - 1, 10 ** 99, -10 ** 99):
            self.assertIs(is_integer(value), False, value)
            self.assertIs(is_count(value), False, value)

    def test_booleans_and_other_kinds_are_none(self):
        for value in all_kinds():
            if type(value) is not int:
                self.assertIs(is_integer(value), False, value)
                self.assertIs(is_count(value), False, value)

    def test_counts_are_not_below_0(self):
        for value in (0, 1, LONGEST):
            self.assertIs(is_count(value), True, value)
        for value in (-1, -LONGEST):
            self.assertIs(is_count(value), False, value)


class Names(Strict, unittest.TestCase):
    def test_names(self):
        for value in ("a", "z", "rows", "abcdefgh", "stuvwxyz", "group"):
            self.assertIs(is_name(value), True, value)

    def test_length(self):
        for value in ("", "abcdefghi", "a" * 4000):
            self.assertIs(is_name(value), False, value)

    def test_letters(self):
        for value in ("A", "rowS", "r1", "1", "a b", " a", "a ", "a\n", "\n", "a_", "a-b", "`", "{", "\u00e4", "\u00df"):
            self.assertIs(is_name(value), False, value)

    def test_other_kinds(self):
        for value in all_kinds():
            if type(value) is not str:
                self.assertIs(is_name(value), False, value)
        self.assertIs(is_name(b"a"), False)
        self.assertIs(is_name(["a"]), False)

    def test_constants(self):
        self.assertSame((words.MAX_LETTERS, words.MAX_FIGURES), (8, 60))

    def test_ascending_names(self):
        for value in ((), ("a",), ("a", "b"), ("a", "ab", "b")):
            self.assertIs(is_ascending_names(value), True, value)
        for value in (("b", "a"), ("a", "a"), ("A",), ("a", 1), (1, 2), ["a"], "ab", {"a": "b"}, None, ("a", ("b",))):
            self.assertIs(is_ascending_names(value), False, value)


class Example(Strict, unittest.TestCase):
    def test_of_the_document(self):
        told = [is_integer(-7), is_count(True), is_name("rows"), is_name("Rows"), is_name("")]
        self.assertSame(told, [True, False, True, False, False])
