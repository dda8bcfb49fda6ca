"""Stage 6 and [0.13], [0.14]: keepers."""

import itertools
import unittest

from tests.force import contents_by_force, drawn_plan, drawn_question, drawn_row, drawn_store, many, touched_by_force
from tests.samples import LONGEST, PLAN, STAR, THREE, TRI, Strict, all_kinds, kinds_but
from touchrows.base.questions import Question
from touchrows.base.ratios import Ratio
from touchrows.data.stores import Store, answer_of
from touchrows.errors import (
    InvalidPlan, InvalidRow, InvalidStore, InvalidView, RowAbsent, RowThere, TooMany, UnknownName,
)
from touchrows.keep.keepers import Keeper
from touchrows.plan.plans import Plan, flat_plan

APART = Question({"r": ("a",), "s": ("b",), "t": ("c",)}, ("a", "b", "c"))


def column(many_rows):
    return tuple((number,) for number in range(many_rows))


def seen(keeper):
    """All that a keeper tells of itself."""
    contents = [(view, keeper[view]) for view in keeper.plan.views]
    return [contents, keeper.result, keeper.total, keeper.changes, len(keeper), str(keeper), list(keeper.store)]


def drawn_keepers(times, seed, most=5):
    for draw in many(times, seed):
        question = drawn_question(draw, draw.randint(1, most), columns=draw.randint(1, 6))
        yield draw, Keeper(drawn_plan(draw, question), drawn_store(draw, question, 3, draw.randint(1, 3)))


class ByForce(Strict, unittest.TestCase):
    def check_contents(self, keeper):
        rows = keeper.store.rows
        for view in keeper.plan.views:
            self.assertSame(keeper[view], contents_by_force(keeper.plan, view, rows))
        self.assertSame(keeper.result, answer_of(keeper.store))

    def wanted(self, keeper, table, row):
        """What the change of a row touches at the views of the path."""
        rows = keeper.store.rows
        return {view: touched_by_force(keeper.plan, view, table, row, rows) for view in keeper.plan.path(table)}

    def test_beginnings(self):
        for _, keeper in drawn_keepers(80, "beginnings", 6):
            self.check_contents(keeper)
            self.assertSame([keeper.changes, keeper.total, len(keeper)], [(), 0, 0])

    def test_drawn_changes(self):
        for draw, keeper in drawn_keepers(60, "changes"):
            question, changes, total = keeper.plan.question, [], 0
            for _ in range(25):
                table = draw.choice(question.names)
                row = drawn_row(draw, question, table, draw.choice((2, 3, 9)))
                before, wanted = seen(keeper), self.wanted(keeper, table, row)
                numbers = tuple(len(rows) for rows in wanted.values())
                self.assertSame(keeper.foreseen(table, row), numbers)
                for view in wanted:
                    self.assertSame(keeper.touched_rows(view, table, row), wanted[view])
                self.assertEqual(seen(keeper), before)
                there, store = keeper.store.has_row(table, row), keeper.store
                word = "take" if there else "put"
                call = draw.choice((keeper, getattr(keeper, word)))
                self.assertSame(call(table, row), numbers)
                self.assertEqual(keeper.store, store - (table, row) if there else store + (table, row))
                changes.append((word, table, row))
                total += sum(numbers)
                self.assertSame([keeper.changes, keeper.total, len(keeper)], [tuple(changes), total, len(changes)])
                self.check_contents(keeper)

    def test_changes_taken_back(self):
        for draw, keeper in drawn_keepers(40, "back"):
            contents, told = seen(keeper)[0], []
            for _ in range(8):
                table = draw.choice(keeper.plan.question.names)
                row = drawn_row(draw, keeper.plan.question, table)
                told.append((table, row, keeper(table, row)))
            for table, row, numbers in told[::-1]:
                self.assertSame(keeper(table, row), numbers)
            self.assertEqual(seen(keeper)[0], contents)
            self.assertEqual(keeper.total, 2 * sum(sum(numbers) for _, _, numbers in told))

    def test_rows_with_values_that_no_table_has(self):
        keeper = Keeper(PLAN, THREE)
        self.assertSame(keeper.put("r", (77, 78)), (1, 0, 0))
        self.assertSame(keeper.put("t", (77, 79)), (1, 0))
        self.assertSame(keeper.put("s", (-LONGEST, LONGEST)), (1, 0, 0))
        self.assertSame(keeper.foreseen("s", (78, 79)), (1, 1, 1))
        self.assertSame(keeper.touched_rows(("r", "s", "t"), "s", (78, 79)), ((77, 79),))
        self.check_contents(keeper)


class Known(Strict, unittest.TestCase):
    def test_empty_stores(self):
        keeper = Keeper(flat_plan(STAR), Store(STAR, {}))
        self.assertSame([keeper.result, keeper[("r",)], keeper.put("u", (5,)), keeper[("u",)]], [{}, {}, (1, 0), {(5,): 1}])
        self.assertSame([keeper.put("r", (5, 6)), keeper.put("s", (5, 7)), keeper.result], [(1, 0), (1, 1), {(5,): 1}])
        self.assertSame([keeper.take("u", (5,)), keeper.result, keeper[("u",)], str(keeper)], [
            (1, 1), {}, {}, "keeper of (r s u), 2 rows, 6 touched"])

    def test_one_table(self):
        question = Question({"r": ("a", "b")}, ("b",))
        keeper = Keeper(flat_plan(question), Store(question, {"r": ((1, 2), (0, 2))}))
        self.assertSame([keeper.result, keeper.put("r", (5, 1)), keeper[("r",)]], [{(2,): 2}, (1,), {(1,): 1, (2,): 2}])
        self.assertSame([keeper.take("r", (1, 2)), keeper.touched_rows(("r",), "r", (1, 2)), keeper.total], [
            (1,), ((1, 2),), 2])

    def test_contents_are_told_apart_and_ascending(self):
        keeper = Keeper(PLAN, Store(TRI, {"r": ((9, 2), (-1, 2)), "s": ((2, 5), (2, -5))}))
        told = keeper[("r", "s")]
        self.assertSame(told, {(-1, -5): 1, (-1, 5): 1, (9, -5): 1, (9, 5): 1})
        told.clear()
        keeper.result.clear()
        self.assertSame(len(keeper[("r", "s")]), 4)
        self.assertSame(keeper.put("t", (9, 5)), (1, 1))
        keeper.result.clear()
        self.assertSame(keeper.result, {(): 1})

    def test_touched_rows_of_the_table_alone(self):
        keeper = Keeper(PLAN, THREE)
        for row in ((1, 2), (8, 8), (LONGEST, 0)):
            self.assertSame(keeper.touched_rows(("r",), "r", row), (row,))

    def test_sizes_do_not_matter(self):
        question = TRI.with_size("r", Ratio(0, 1))
        keeper = Keeper(PLAN.over(question), Store(question, THREE.rows))
        self.assertSame(keeper.put("t", (1, 6)), (1, 0))

    def test_example(self):
        keeper = Keeper(PLAN, THREE)
        told = [
            keeper[("r", "s")], keeper.put("t", (9, 5)), keeper.foreseen("s", (2, 7)), keeper.put("s", (2, 7)),
            keeper.take("r", (1, 2)),
        ]
        self.assertSame(told, [{(1, 5): 2}, (1, 0), (1, 1, 0), (1, 1, 0), (1, 2, 1)])
        told = [keeper.result, keeper.total, keeper.touched_rows(("r", "s"), "r", (1, 2)), len(keeper), str(keeper)]
        self.assertSame(told, [{(): 1}, 7, ((1, 2, 5), (1, 2, 7)), 3, "keeper of ((r s) t), 6 rows, 7 touched"])


class Errors(Strict, unittest.TestCase):
    def setUp(self):
        self.keeper = Keeper(PLAN, THREE)
        self.keeper.put("t", (9, 5))
        self.before = seen(self.keeper)

    def tearDown(self):
        self.assertEqual(seen(self.keeper), self.before)

    def test_beginnings(self):
        for value in kinds_but(Plan):
            self.assertFails(InvalidPlan, Keeper, value, THREE)
            self.assertFails(InvalidPlan, Keeper, value, None)
        for value in [*kinds_but(Store), THREE.rows, Store(STAR, {}), Store(TRI.with_groups(("a",)), {}),
                      Store(TRI.with_size("r", Ratio(2, 1)), THREE.rows)]:
            self.assertFails(InvalidStore, Keeper, PLAN, value)

    def test_unknown_tables(self):
        for value in [*all_kinds(), "q", "R", ("r",), ["r"]]:
            for call in (self.keeper, self.keeper.put, self.keeper.take, self.keeper.foreseen):
                for row in ((1, 2), (8, 8), None):
                    self.assertKeeps(UnknownName, "word", value, call, value, row)
            self.assertKeeps(UnknownName, "word", value, self.keeper.touched_rows, ("r", "s"), value, (1, 2))
            self.assertKeeps(UnknownName, "word", value, self.keeper.touched_rows, ("r", "s"), value, None)

    def test_no_rows(self):
        wrong = [value for value in all_kinds() if value != (1, 2)]
        for row in [*wrong, (1,), (1, 2, 3), [1, 2], (1, True), (1, "2"), (1, LONGEST + 1), ((1, 2),), (1, None)]:
            for call in (self.keeper, self.keeper.put, self.keeper.take, self.keeper.foreseen):
                self.assertFails(InvalidRow, call, "r", row)
            for view in (("r",), ("r", "s"), ("r", "s", "t")):
                self.assertFails(InvalidRow, self.keeper.touched_rows, view, "r", row)

    def test_rows_there_and_absent(self):
        self.assertKeeps(RowThere, "placed", (1, 2), self.keeper.put, "r", (1, 2))
        self.assertKeeps(RowAbsent, "missed", (2, 1), self.keeper.take, "r", (2, 1))
        self.assertKeeps(RowThere, "placed", (9, 5), self.keeper.put, "t", (9, 5))

    def test_no_views(self):
        for value in [*all_kinds(), ("r", "t"), ("q",), ("s", "r"), ["r", "s"], "r"]:
            self.assertFails(InvalidView, lambda: self.keeper[value])
            self.assertFails(InvalidView, self.keeper.touched_rows, value, "q", None)
        self.assertKeeps(UnknownName, "word", "t", self.keeper.touched_rows, ("r", "s"), "t", None)
        self.assertKeeps(UnknownName, "word", "s", self.keeper.touched_rows, ("r",), "s", (1, 2))

    def test_no_iteration(self):
        for call in (iter, list, tuple, lambda keeper: [*keeper], lambda keeper: 1 in keeper):
            self.assertFails(TypeError, call, self.keeper)

    def test_properties_are_not_assigned(self):
        for name in ("plan", "store", "result", "total", "changes"):
            with self.assertRaises(AttributeError):
                setattr(self.keeper, name, ())


class Limits(Strict, unittest.TestCase):
    def check_refused(self, keeper, table, row, numbers):
        before = seen(keeper)
        for call in (keeper.put, keeper):
            self.assertKeeps(TooMany, "limit", 100000, call, table, row)
        self.assertSame(keeper.foreseen(table, row), numbers)
        self.assertEqual(seen(keeper), before)

    def test_beginnings(self):
        rows = {"r": column(1000), "s": column(100)}
        flat, deep = flat_plan(APART), Plan(APART, (("r", "s"),))
        self.assertSame(len(Keeper(deep, Store(APART, rows))[("r", "s")]), 100000)
        more = Store(APART, {**rows, "s": column(101)})
        self.assertKeeps(TooMany, "limit", 100000, Keeper, deep, more)
        self.assertSame(Keeper(flat, more).result, {})
        full = Store(APART, {**rows, "t": column(1)})
        self.assertSame(sum(Keeper(flat, full).result.values()), 100000)
        self.assertKeeps(TooMany, "limit", 100000, Keeper, flat, full + ("t", (7,)))

    def test_beginnings_without_groups(self):
        question = APART.with_groups(())
        store = Store(question, {"r": column(2000), "s": column(50), "t": column(1)})
        for plan in (flat_plan(question), Plan(question, (("r", "s"),)), Plan(question, (("s", "t"),))):
            self.assertSame(Keeper(plan, store).result, {(): 100000})
            self.assertKeeps(TooMany, "limit", 100000, Keeper, plan, store + ("s", (50,)))

    def test_one_more(self):
        # 1999 * 50 readings with the value 0 at z, and 1 * 50 with 1, to which one more comes.
        question = Question({"r": ("a", "z"), "s": ("b", "z")}, ())
        rows = {"r": tuple((one, 0) for one in range(1999)), "s": tuple((one, 0) for one in range(50))}
        rows["r"] += ((7, 1),)
        rows["s"] += tuple((one, 1) for one in range(50))
        store, plan = Store(question, rows), flat_plan(question)
        keeper = Keeper(plan, store)
        self.assertSame(keeper.result, {(): 100000})
        self.check_refused(keeper, "s", (50, 1), (1, 1))
        self.assertKeeps(TooMany, "limit", 100000, Keeper, plan, store + ("s", (50, 1)))
        self.assertSame(keeper.take("s", (49, 1)), (1, 1))
        self.assertSame(keeper.put("s", (50, 1)), (1, 1))
        self.assertSame(keeper.result, {(): 100000})

    def test_puts(self):
        keeper = Keeper(flat_plan(APART), Store(APART, {"r": column(400), "s": column(250)}))
        self.assertSame(keeper.put("t", (0,)), (1, 100000))
        self.check_refused(keeper, "t", (1,), (1, 100000))
        self.check_refused(keeper, "r", (400,), (1, 250))
        self.assertSame(keeper.take("t", (0,)), (1, 100000))
        self.assertSame(keeper.put("r", (400,)), (1, 0))
        self.check_refused(keeper, "t", (0,), (1, 100250))

    def test_puts_at_a_view_below_the_root(self):
        plan = Plan(APART, (("r", "s"),))
        keeper = Keeper(plan, Store(APART, {"r": column(999), "s": column(100)}))
        self.assertSame(keeper.put("r", (999,)), (1, 100, 0))
        self.check_refused(keeper, "r", (1000,), (1, 100, 0))
        self.check_refused(keeper, "s", (1000,), (1, 1000, 0))

    def test_few_rows_that_stand_for_many_readings(self):
        question = APART.with_groups(())
        keeper = Keeper(flat_plan(question), Store(question, {"r": column(400), "s": column(250), "t": column(1)}))
        self.check_refused(keeper, "t", (1,), (1, 1))
        self.assertSame(keeper.take("t", (0,)), (1, 1))
        self.assertSame(keeper.put("t", (1,)), (1, 1))

    def test_what_is_foreseen_is_told_however_great(self):
        names, letters = "rstuvw", tuple("abcdef")
        question = Question({name: (letter,) for name, letter in zip(names, letters)}, letters)
        keeper = Keeper(flat_plan(question), Store(question, {name: column(2000) for name in names[:5]}))
        self.check_refused(keeper, "w", (7,), (1, 2000 ** 5))
        self.assertSame(keeper.foreseen("r", (2000,)), (1, 0))

    def test_two_thousand_rows(self):
        keeper = Keeper(flat_plan(APART), Store(APART, {"r": column(2000)}))
        before = seen(keeper)
        self.assertKeeps(TooMany, "limit", 2000, keeper.put, "r", (2000,))
        self.assertKeeps(TooMany, "limit", 2000, keeper, "r", (2000,))
        self.assertSame(keeper.foreseen("r", (2000,)), (1, 0))
        self.assertKeeps(RowThere, "placed", (3,), keeper.put, "r", (3,))
        self.assertEqual(seen(keeper), before)

    def test_both_limits(self):
        keeper = Keeper(flat_plan(APART), Store(APART, {"r": column(2000), "s": column(50), "t": column(1)}))
        self.assertKeeps(TooMany, "limit", 2000, keeper.put, "r", (2000,))
        self.assertKeeps(TooMany, "limit", 100000, keeper.put, "s", (2000,))


class Copies(Strict, unittest.TestCase):
    def test_twins_are_independent(self):
        keeper = Keeper(PLAN, THREE)
        keeper.put("t", (9, 5))
        twin = keeper.twin()
        self.assertIs(type(twin), Keeper)
        self.assertEqual(seen(twin), seen(keeper))
        self.assertIs(twin == keeper, True)
        before = seen(keeper)
        twin.put("s", (2, 7))
        twin.take("r", (1, 2))
        self.assertEqual(seen(keeper), before)
        self.assertIs(twin == keeper, False)
        later = seen(twin)
        for table, row in (("r", (1, 3)), ("s", (2, 5)), ("t", (0, 0))):
            keeper(table, row)
        self.assertEqual(seen(twin), later)
        self.assertSame([len(twin), twin.total], [3, 1 + 2 + 4])

    def test_the_store_that_was_passed(self):
        rows = list(THREE)
        keeper = Keeper(PLAN, THREE)
        keeper.put("r", (0, 0))
        self.assertEqual((list(THREE), len(keeper.store)), (rows, 6))

    def test_equality(self):
        keeper, other = Keeper(PLAN, THREE), Keeper(PLAN, THREE)
        self.assertIs(keeper == other, True)
        self.assertIs(keeper != other, False)
        keeper.put("t", (9, 9))
        self.assertIs(keeper == other, False)
        keeper.take("t", (9, 9))
        self.assertIs(keeper == other, False)
        self.assertIs(keeper != other, True)
        other("t", (9, 9))
        other("t", (9, 9))
        self.assertIs(keeper == other, True)
        for value in (Keeper(flat_plan(TRI), THREE), Keeper(PLAN, THREE - ("t", (1, 5))),
                      *kinds_but(Keeper), PLAN, THREE, object()):
            self.assertIs(Keeper(PLAN, THREE) == value, False)
            self.assertIs(value == Keeper(PLAN, THREE), False)
            self.assertIs(Keeper(PLAN, THREE) != value, True)

    def test_all_properties(self):
        keeper = Keeper(PLAN, THREE)
        for table, row in itertools.chain(THREE, THREE):
            keeper(table, row)
        self.assertEqual((keeper.plan, keeper.store), (PLAN, THREE))
        words = [change[0] for change in keeper.changes]
        self.assertEqual(words, ["take"] * 5 + ["put"] * 5)
        self.assertSame(keeper.changes[5:], tuple(("put", *pair) for pair in THREE))
