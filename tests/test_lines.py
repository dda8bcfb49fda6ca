"""Promise [3.1] and `Question.from_lines`."""

import itertools
import unittest

from tests.samples import LONGEST, PATH, STAR, TRI, Strict, kinds_but
from touchrows.base.questions import Question
from touchrows.base.ratios import Ratio
from touchrows.errors import InvalidQuestion, ParseError

NO_LINES = (
    "", " ", "r", "table", "table ", "table r", "table r ", "table  r a", "table r  a", " table r a", "table r a ",
    "table r a\n", "\ntable r a", "table\tr a", "Table r a", "tables r a", "table R a", "table r A", "table r a1",
    "table r b a", "table r a a", "table r a c b", "table abcdefghi a", "table r abcdefghi", "table r1 a", "table r a,b",
    "table r a b 1", "table 1 a", "r a b", "table r a\ntable s a",
    "size", "size r", "size r ", "size r  2", "size r 2 ", " size r 2", "size r +2", "size r 02", "size r 2/1", "size r 2/4",
    "size r 1/0", "size r -0", "size r 1.5", "size r a", "size r 1 2", "size R 2", "size 2", "size 2 r", "Size r 2",
    "size abcdefghi 2", "size r 2\n", f"size r {LONGEST + 1}", f"size r -{LONGEST + 1}", f"size r 1/{LONGEST + 1}",
    "size r " + "9" * 3900,
    "group", "group ", "group  a", "group a ", " group a", "group b a", "group a a", "group A", "group a 1", "Group a",
    "groups a", "group a,b", "group abcdefghi",
)


class Written(Strict, unittest.TestCase):
    def test_order(self):
        question = Question(
            {"t": ("c", "d"), "s": ("b", "c"), "r": ("a", "b")}, ("a", "c"),
            sizes={"t": Ratio(1, 2), "s": Ratio(1, 1), "r": Ratio(0, 1)},
        )
        wanted = ("table r a b", "table s b c", "table t c d", "size r 0", "size t 1/2", "group a c")
        self.assertSame(question.lines, wanted)

    def test_without_sizes_and_groups(self):
        self.assertSame(TRI.lines, ("table r a b", "table s b c", "table t a c"))

    def test_both_ways(self):
        for question in (TRI, STAR, PATH, PATH.with_size("s", Ratio(7, 60)).with_groups(("a", "b", "c", "d"))):
            self.assertEqual(Question.from_lines(*question.lines), question)
            self.assertEqual(Question.from_lines(*question), question)


class Read(Strict, unittest.TestCase):
    def test_every_order(self):
        question = STAR.without_table("u").with_size("r", Ratio(3, 2)).with_size("s", Ratio(0, 1))
        for lines in itertools.permutations(question.lines):
            told = Question.from_lines(*lines)
            self.assertEqual(told, question)
            self.assertSame(told.lines, question.lines)

    def test_size_1_is_a_line(self):
        self.assertEqual(Question.from_lines("size r 1", *TRI.lines), TRI)
        self.assertFails(InvalidQuestion, Question.from_lines, *TRI.lines, "size q 1")

    def test_words_as_names(self):
        told = Question.from_lines("table table table", "table size size", "table group group", "size size 2", "group group")
        self.assertSame(told.tables, {"group": ("group",), "size": ("size",), "table": ("table",)})
        self.assertSame((told.groups, str(told.sizes["size"])), (("group",), "2"))

    def test_no_lines(self):
        for line in NO_LINES:
            self.assertKeeps(ParseError, "number", 0, Question.from_lines, line)
            self.assertKeeps(ParseError, "number", 3, Question.from_lines, *TRI.lines, line)

    def test_other_kinds(self):
        for value in [*kinds_but(str), "1/2", "~" * 4000, "a" * 4000, b"table r a", ("table r a",), ["table r a"]]:
            self.assertKeeps(ParseError, "number", 0, Question.from_lines, value, *TRI.lines)
            self.assertKeeps(ParseError, "number", 2, Question.from_lines, *STAR.lines[:2], value)

    def test_lines_that_come_twice(self):
        for lines, number in (
            (("table r a", "table r a"), 1), (("table r a", "table r b"), 1), (("table r a", "table s a", "table r a"), 2),
            (("table r a", "size r 2", "size r 2"), 2), (("size r 1", "table r a", "size r 1"), 2),
            (("size r 1", "size r 2"), 1), (("table r a", "group a", "group a"), 2), (("group a", "group b"), 1),
            (("group a", "table r a b", "group a b", "group a"), 2),
        ):
            self.assertKeeps(ParseError, "number", number, Question.from_lines, *lines)

    def test_a_table_and_a_size_are_no_lines_that_come_twice(self):
        told = Question.from_lines("size r 2", "table r r", "group r")
        self.assertSame(told.lines, ("table r r", "size r 2", "group r"))

    def test_the_first_one_counts(self):
        self.assertKeeps(ParseError, "number", 1, Question.from_lines, "table r a", "fly", "table r a")
        self.assertKeeps(ParseError, "number", 1, Question.from_lines, "table r a", "table r a", "fly")
        self.assertKeeps(ParseError, "number", 2, Question.from_lines, "size q 1", "group z", None, "fly")

    def test_no_line_comes_ahead_of_no_question(self):
        for line in ("size q 2", "group z", "size r 10", "table s a b c d e f g"):
            self.assertKeeps(ParseError, "number", 2, Question.from_lines, "table r a", line, "fly")

    def test_lines_of_no_question(self):
        for lines in (
            (), ("group a",), ("size r 1",), ("size r 1/2",), ("table r a", "size s 1"), ("table r a", "size s 1/2"),
            ("table r a", "group b"), ("table r a", "group a b"), ("table r a b c d e f g",),
            ("table r a", "group a b c d e f g h i"), ("table r a", "size r 10"), ("table r a", "size r -1"),
            ("table r a", "size r 1/61"), ("table r a", "size r 541/60"), ("table r a", "size r -1/3"),
            ("table r a b c d e", "table s f g h i"), ("table r a", f"size r {LONGEST}"),
            ("table r a", f"size r 1/{LONGEST}"), tuple(f"table {name} a" for name in "abcdefg"),
        ):
            self.assertFails(InvalidQuestion, Question.from_lines, *lines)

    def test_limits(self):
        self.assertEqual(len(Question.from_lines(*[f"table {name} a b c d e f" for name in "abcdef"])), 6)
        self.assertEqual(Question.from_lines("table r a", "size r 9").sizes["r"], Ratio(9, 1))
        self.assertEqual(Question.from_lines("table r a", "size r 539/60").sizes["r"], Ratio(539, 60))
        self.assertEqual(Question.from_lines("table r a", "size r 0").sizes["r"], Ratio(0, 1))
        eight = Question.from_lines("table r a b c d", "table s e f g h", "group a b c d e f g h")
        self.assertEqual(len(eight.groups), 8)
