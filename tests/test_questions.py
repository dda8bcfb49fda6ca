"""Stage 3: questions, [0.8], [0.2] and all methods but the lines."""

import unittest

from tests.samples import LONGEST, PATH, STAR, TRI, Strict, all_kinds, kinds_but
from touchrows.base import questions
from touchrows.base.questions import Question
from touchrows.base.ratios import Ratio
from touchrows.errors import InvalidOperation, InvalidQuestion, UnknownName

HALF = Ratio(1, 2)
LETTERS = "abcdefghijk"


def told_by(question):
    """All that a question tells, as texts."""
    sizes = {name: str(size) for name, size in question.sizes.items()}
    return repr((question.tables, question.groups, sizes, question.names, question.columns, question.lines))


class Limits(Strict, unittest.TestCase):
    def test_constants(self):
        self.assertSame((questions.MAX_TABLES, questions.MAX_COLUMNS, questions.MAX_SIZE), (6, 8, 9))

    def test_tables(self):
        for many in (1, 2, 6):
            self.assertEqual(len(Question({name: ("x",) for name in LETTERS[:many]}, ())), many)
        for many in (0, 7):
            self.assertFails(InvalidQuestion, Question, {name: ("x",) for name in LETTERS[:many]}, ())

    def test_columns_of_a_table(self):
        for many in (1, 6):
            self.assertEqual(len(Question({"r": tuple(LETTERS[:many])}, ()).columns), many)
        for many in (0, 7):
            self.assertFails(InvalidQuestion, Question, {"r": tuple(LETTERS[:many])}, ())
        self.assertFails(InvalidQuestion, Question, {"r": ("a",), "s": ()}, ())

    def test_columns_in_all(self):
        eight = {"r": tuple("abcdef"), "s": ("e", "f", "g", "h")}
        self.assertEqual(Question(eight, ()).columns, tuple("abcdefgh"))
        self.assertFails(InvalidQuestion, Question, {"r": tuple("abcdef"), "s": ("e", "g", "h", "i")}, ())
        self.assertFails(InvalidQuestion, Question, {**eight, "t": ("i",)}, ())

    def test_sizes(self):
        for size in (Ratio(0, 1), Ratio(9, 1), Ratio(1, 60), Ratio(539, 60), Ratio(7, 59), Ratio(18, 2), Ratio(61, 122)):
            question = Question({"r": ("a",), "s": ("a",)}, (), sizes={"s": size})
            self.assertEqual(question.sizes, {"r": Ratio(1, 1), "s": size})
            self.assertEqual(question.with_size("s", HALF).with_size("s", size), question)
        for size in (
            Ratio(-1, 1), Ratio(-1, 60), Ratio(10, 1), Ratio(541, 60), Ratio(1, 61), Ratio(9 * 59 + 1, 59), Ratio(5, 61),
            Ratio(LONGEST, 1), Ratio(LONGEST, 1) * Ratio(LONGEST, 1), Ratio(1, LONGEST).over(Ratio(LONGEST, 1)),
        ):
            self.assertFails(InvalidQuestion, Question, {"r": ("a",)}, (), sizes={"r": size})
            self.assertFails(InvalidQuestion, TRI.with_size, "r", size)

    def test_a_table_and_a_column_can_have_the_same_name(self):
        question = Question({"a": ("a", "b"), "b": ("b",)}, ("a",))
        self.assertSame((question.names, question.columns, question.tables_with("b")), (("a", "b"), ("a", "b"), ("a", "b")))

    def test_long_names(self):
        self.assertEqual(Question({"abcdefgh": ("stuvwxyz",)}, ("stuvwxyz",)).columns, ("stuvwxyz",))
        self.assertFails(InvalidQuestion, Question, {"abcdefghi": ("a",)}, ())
        self.assertFails(InvalidQuestion, Question, {"r": ("abcdefghi",)}, ())


class Wrong(Strict, unittest.TestCase):
    def test_columns_that_are_not_ascending(self):
        for columns in (("b", "a"), ("a", "a"), ("a", "c", "b"), ("a", "b", "b"), ("b", "ab")):
            self.assertFails(InvalidQuestion, Question, {"r": columns}, ())
            self.assertFails(InvalidQuestion, TRI.with_table, "r", columns)

    def test_groups(self):
        for groups in (("b", "a"), ("a", "a"), ("d",), ("a", "d"), ("r",), ("",), ("a", 1), (1,), ("A",), ["a"], "a"):
            self.assertFails(InvalidQuestion, Question, TRI.tables, groups)
            self.assertFails(InvalidQuestion, TRI.with_groups, groups)

    def test_tables_of_other_kinds(self):
        for value in all_kinds():
            self.assertFails(InvalidQuestion, Question, value, ())
            if value != ("a",):
                self.assertFails(InvalidQuestion, Question, {"r": value, "s": ("a",)}, ())
        for name in ("", "R", "r s", "r1", 1, True, None, ("r",), (), (("r",), 2)):
            self.assertFails(InvalidQuestion, Question, {name: ("a",)}, ())
        for columns in (("a", 1), (1,), (("a",),), (None,), (True,), ("",), ("A",), (["a"],), ({},), ["a"], {"a": 1}, "a"):
            self.assertFails(InvalidQuestion, Question, {"r": columns}, ())

    def test_groups_of_other_kinds(self):
        for value in all_kinds():
            if value not in ((), ("a",)):
                self.assertFails(InvalidQuestion, Question, {"r": ("a",)}, value)
                self.assertFails(InvalidQuestion, STAR.with_groups, value)

    def test_sizes_of_other_kinds(self):
        for value in all_kinds():
            if value is not None and value != {}:
                self.assertFails(InvalidQuestion, Question, {"r": ("a",)}, (), sizes=value)
            if type(value) is not Ratio:
                self.assertFails(InvalidQuestion, Question, {"r": ("a",)}, (), sizes={"r": value})
                self.assertFails(InvalidQuestion, TRI.with_size, "r", value)

    def test_sizes_of_tables_that_are_not_there(self):
        for name in ("s", "a", "", 1, None, True, ("r",), ()):
            self.assertFails(InvalidQuestion, Question, {"r": ("a",)}, (), sizes={name: HALF})
            self.assertFails(InvalidQuestion, Question, {"r": ("a",)}, (), sizes={"r": HALF, name: HALF})


class Properties(Strict, unittest.TestCase):
    def test_ascending(self):
        question = Question({"t": ("d",), "r": ("b", "c"), "s": ("a", "c")}, ("a", "d"), sizes={"t": HALF, "s": HALF})
        self.assertSame(question.tables, {"r": ("b", "c"), "s": ("a", "c"), "t": ("d",)})
        self.assertSame((question.names, question.columns), (("r", "s", "t"), ("a", "b", "c", "d")))
        self.assertSame(question.groups, ("a", "d"))
        self.assertSame(list(question.sizes), ["r", "s", "t"])
        self.assertSame([str(size) for size in question.sizes.values()], ["1", "1/2", "1/2"])

    def test_sizes_are_1_otherwise(self):
        for sizes in (None, {}, {"r": Ratio(2, 2)}):
            question = Question({"r": ("a",), "s": ("a",)}, (), sizes=sizes)
            self.assertSame({name: size.pair for name, size in question.sizes.items()}, {"r": (1, 1), "s": (1, 1)})

    def test_what_is_passed_is_not_shared(self):
        tables, sizes = {"s": ("a",), "r": ("a",)}, {"r": HALF}
        question = Question(tables, (), sizes=sizes)
        before = told_by(question)
        self.assertSame((list(tables), list(sizes)), (["s", "r"], ["r"]))
        tables["t"] = ("b",)
        del tables["r"], sizes["r"]
        self.assertEqual(told_by(question), before)

    def test_what_is_told_is_not_shared(self):
        question = STAR.with_size("r", HALF)
        before = told_by(question)
        question.tables["z"] = ("a",)
        question.tables.clear()
        question.sizes["r"] = Ratio(2, 1)
        question.sizes.clear()
        self.assertEqual(told_by(question), before)
        derived = question.with_size("s", HALF).with_groups(())
        derived.tables.clear()
        self.assertEqual(told_by(question), before)

    def test_never_changes(self):
        for name in ("tables", "sizes", "groups", "names", "columns", "lines"):
            with self.assertRaises(AttributeError):
                setattr(TRI, name, ())


class Changed(Strict, unittest.TestCase):
    def test_tables_with(self):
        self.assertSame(PATH.tables_with("b"), ("r", "s"))
        self.assertSame(PATH.tables_with("d"), ("t",))
        self.assertSame(STAR.tables_with("a"), ("r", "s", "u"))
        for value in [*all_kinds(), "r", "d", "aa", ("r",), ["b"]]:
            if value != "a":
                self.assertKeeps(UnknownName, "word", value, TRI.tables_with, value)

    def test_with_table(self):
        more = STAR.with_size("s", HALF).with_table("q", ("a", "e"))
        self.assertSame(more.lines, ("table q a e", "table r a b", "table s a c", "table u a", "size s 1/2", "group a"))
        other = more.with_table("s", ("e",))
        self.assertSame(other.lines, ("table q a e", "table r a b", "table s e", "table u a", "size s 1/2", "group a"))
        self.assertEqual(more.with_table("s", ("a", "c")), more)

    def test_with_table_that_cannot_be(self):
        for value in all_kinds():
            if value != "a":
                self.assertFails(InvalidQuestion, TRI.with_table, value, ("a",))
            if value != ("a",):
                self.assertFails(InvalidQuestion, TRI.with_table, "r", value)
                self.assertFails(InvalidQuestion, TRI.with_table, "z", value)
        six = Question({name: ("x",) for name in LETTERS[:6]}, ())
        self.assertFails(InvalidQuestion, six.with_table, "z", ("x",))
        self.assertEqual(len(six.with_table("a", ("x", "y"))), 6)
        self.assertFails(InvalidQuestion, STAR.with_groups(("b",)).with_table, "r", ("a",))
        self.assertFails(InvalidQuestion, PATH.with_table, "u", ("e", "f", "g", "h", "i"))
        self.assertEqual(len(PATH.with_table("u", ("e", "f", "g", "h")).columns), 8)

    def test_with_size(self):
        question = TRI.with_size("s", HALF)
        self.assertSame({name: str(size) for name, size in question.sizes.items()}, {"r": "1", "s": "1/2", "t": "1"})
        self.assertEqual(question.with_size("s", Ratio(1, 1)), TRI)

    def test_with_size_of_no_table(self):
        for value in [*all_kinds(), "z", "b", ["r"], ("r",)]:
            self.assertKeeps(UnknownName, "word", value, TRI.with_size, value, HALF)
            self.assertKeeps(UnknownName, "word", value, TRI.with_size, value, "no size")

    def test_with_groups(self):
        self.assertSame(TRI.with_groups(("a", "c")).groups, ("a", "c"))
        self.assertSame(STAR.with_groups(()).groups, ())
        self.assertSame(STAR.with_size("r", HALF).with_groups(("b",)).lines[3:], ("size r 1/2", "group b"))

    def test_without_table(self):
        question = STAR.with_size("r", HALF).with_size("u", HALF)
        self.assertSame(question.without_table("u").lines, ("table r a b", "table s a c", "size r 1/2", "group a"))
        self.assertSame(TRI.without_table("r").without_table("t").lines, ("table s b c",))

    def test_without_table_that_cannot_be(self):
        self.assertFails(InvalidQuestion, Question({"r": ("a",)}, ()).without_table, "r")
        self.assertFails(InvalidQuestion, PATH.with_groups(("d",)).without_table, "t")
        for value in [*all_kinds(), "z", "b", ["r"], ("r",)]:
            self.assertKeeps(UnknownName, "word", value, TRI.without_table, value)
            self.assertKeeps(UnknownName, "word", value, Question({"r": ("x",)}, ()).without_table, value)

    def test_all_leave_the_question_as_it_was(self):
        question = STAR.with_size("s", HALF)
        before = told_by(question)
        for call in (
            lambda: question.with_table("q", ("a",)), lambda: question.with_table("r", ("e",)),
            lambda: question.with_size("r", HALF), lambda: question.with_groups(("b",)),
            lambda: question.without_table("s"), lambda: question.tables_with("a"), lambda: str(question),
            lambda: list(question), lambda: question == TRI, lambda: question.renamed(*exchanged(question)),
            lambda: question.with_table("q", ("b", "a")), lambda: question.with_size("q", HALF),
            lambda: question.with_size("r", 1), lambda: question.with_groups(("z",)),
            lambda: question.without_table("q"), lambda: question.tables_with("q"), lambda: question.renamed({}, {}),
        ):
            try:
                call()
            except (InvalidQuestion, InvalidOperation, UnknownName):
                pass
            self.assertEqual(told_by(question), before)


def exchanged(question):
    """Renamings that exchange the first two tables and the first two columns."""
    tables = {name: name for name in question.names}
    columns = {name: name for name in question.columns}
    for names, renaming in ((question.names, tables), (question.columns, columns)):
        renaming[names[0]], renaming[names[1]] = names[1], names[0]
    return tables, columns


class Renamed(Strict, unittest.TestCase):
    def test_other_names(self):
        question = STAR.with_size("r", HALF).with_groups(("a", "c"))
        told = question.renamed({"r": "z", "s": "y", "u": "x"}, {"a": "n", "b": "m", "c": "l"})
        self.assertSame(told.lines, ("table x n", "table y l n", "table z m n", "size z 1/2", "group l n"))

    def test_names_exchanged(self):
        question = PATH.with_size("r", HALF).with_groups(("a",))
        told = question.renamed(*exchanged(question))
        self.assertSame(told.lines, ("table r a c", "table s a b", "table t c d", "size s 1/2", "group b"))
        self.assertEqual(told.renamed(*exchanged(told)), question)

    def test_names_as_they_are(self):
        tables, columns = {name: name for name in TRI.names}, {name: name for name in TRI.columns}
        self.assertEqual(TRI.renamed(tables, columns), TRI)
        crossed = TRI.renamed({"r": "a", "s": "b", "t": "c"}, {"a": "r", "b": "s", "c": "t"})
        self.assertSame(crossed.lines, ("table a r s", "table b s t", "table c r t"))

    def test_the_order_of_a_dict_does_not_matter(self):
        tables, columns = exchanged(STAR)
        backward = dict(reversed(tables.items())), dict(reversed(columns.items()))
        self.assertEqual(STAR.renamed(*backward), STAR.renamed(tables, columns))
        self.assertEqual((tables, columns), exchanged(STAR))

    def test_no_renaming(self):
        tables, columns = exchanged(TRI)
        for value in [
            *all_kinds(), {"r": "x", "s": "y"}, {"r": "x", "s": "y", "t": "z", "u": "w"}, {"r": "x", "s": "y", "u": "z"},
            {"r": "x", "s": "x", "t": "y"}, {"r": "x", "s": "y", "t": "Z"}, {"r": "x", "s": "y", "t": ""},
            {"r": "x", "s": "y", "t": "z", "u": "z"}, {"r": "x", "s": "y", "t": "z", 1: "z"},
            {"r": "x", "s": "y", "t": 1}, {"r": "x", "s": "y", "t": ["z"]}, {"r": "x", "s": "y", "t": None},
            {"r": "x", "s": "y", "t": "abcdefghi"}, {"r": "x", "s": "y", 1: "z"}, {"r": "x", "s": "y", ("t",): "z"},
            list(tables.items()), tuple(tables.items()),
        ]:
            self.assertFails(InvalidOperation, TRI.renamed, value, columns)
            self.assertFails(InvalidOperation, TRI.renamed, value, value)
        for value in [
            *all_kinds(), {"a": "x", "b": "y"}, {"a": "x", "b": "y", "c": "z", "d": "w"}, {"a": "x", "b": "y", "d": "z"},
            {"a": "x", "b": "x", "c": "y"}, {"a": "x", "b": "y", "c": "Z"}, {"a": "x", "b": "y", "c": 1},
            {"a": "x", "b": "y", "c": "z", "d": "z"},
            {"a": "x", "b": "y", "c": []}, tables,
        ]:
            self.assertFails(InvalidOperation, TRI.renamed, tables, value)


class Protocols(Strict, unittest.TestCase):
    def test_len(self):
        self.assertSame([len(TRI), len(TRI.without_table("r")), len(Question({"r": ("a",)}, ()))], [3, 2, 1])

    def test_iteration_yields_the_lines(self):
        question = STAR.with_size("s", HALF)
        self.assertSame(tuple(question), question.lines)
        self.assertSame([line for line in question], ["table r a b", "table s a c", "table u a", "size s 1/2", "group a"])
        self.assertEqual(tuple(question), tuple(question))

    def test_in(self):
        for name in TRI.names:
            self.assertIs(name in TRI, True)
            self.assertIs(name not in TRI, False)
        for value in [*all_kinds(), "z", "b", "table r a b", ("r",), ["r"], {"r": 1}, {"r"}, b"r", object()]:
            self.assertIs(value in TRI, False)
            self.assertIs(value not in TRI, True)

    def test_equality(self):
        same = Question({"t": ("a", "c"), "s": ("b", "c"), "r": ("a", "b")}, (), sizes={"t": Ratio(3, 3)})
        self.assertIs(same == TRI, True)
        self.assertIs(same != TRI, False)
        for other in (
            TRI.with_groups(("a",)), TRI.with_size("r", HALF), TRI.with_table("r", ("a", "c")), TRI.with_table("u", ("a",)),
            TRI.without_table("t"), PATH, STAR, TRI.renamed(*exchanged(TRI)).with_table("r", ("a",)),
        ):
            self.assertIs(other == TRI, False)
            self.assertIs(TRI == other, False)
            self.assertIs(other != TRI, True)

    def test_equality_with_other_values(self):
        for value in [*kinds_but(Question), TRI.lines, TRI.tables, str(TRI), TRI.names, 3, b"", {1}, object()]:
            self.assertIs(TRI == value, False)
            self.assertIs(value == TRI, False)
            self.assertIs(TRI != value, True)

    def test_str(self):
        self.assertSame(str(Question({"r": ("a",)}, ("a",))), "question with 1 tables, 1 columns, 1 groups")
        self.assertSame(str(PATH.with_groups(("a", "d"))), "question with 3 tables, 4 columns, 2 groups")

    def test_nothing_is_ordered_or_added(self):
        for call in (lambda: TRI < STAR, lambda: TRI + STAR, lambda: TRI[0], lambda: reversed(TRI)):
            self.assertFails(TypeError, call)


class Examples(Strict, unittest.TestCase):
    def test_of_the_document(self):
        told = [str(TRI), TRI.names, TRI.columns, TRI.tables_with("a"), STAR.lines, str(STAR.sizes["u"])]
        self.assertSame(told, [
            "question with 3 tables, 3 columns, 0 groups", ("r", "s", "t"), ("a", "b", "c"), ("r", "t"),
            ("table r a b", "table s a c", "table u a", "group a"), "1",
        ])
        small = PATH.with_size("t", Ratio(1, 2))
        told = [
            small.lines[3], len(small.without_table("r")), small.with_groups(("b",)).groups, "t" in small, small == PATH,
        ]
        self.assertSame(told, ["size t 1/2", 2, ("b",), True, False])
