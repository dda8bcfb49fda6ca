"""Stage 13 and [13.1]: dear changes and histories."""

import itertools
import unittest

from tests.force import (
    all_plans, drawn_history, drawn_plan, drawn_question, drawn_questions, drawn_store, many, places_of_plan, touched_by_force,
)
from tests.samples import LONGEST, PATH, PLAN, STAR, THREE, TRI, Strict, all_kinds, kinds_but
from touchrows.base.questions import Question
from touchrows.base.ratios import Ratio
from touchrows.data.stores import Store
from touchrows.errors import InvalidOperation, InvalidPlan, InvalidStore, InvalidView, TooMany, UnknownName
from touchrows.keep.dear import (
    cheapest, dearest_in_all, dearest_row, is_dearest_row, is_history, led_back, most_in_all, most_touched, run, total_of,
)
from touchrows.keep.keepers import Keeper
from touchrows.plan.plans import Plan, flat_plan
from touchrows.plan.shapes import each_plan

RS = ("r", "s")
APART = Question({"r": ("a",), "s": ("b",), "t": ("c",)}, ("a", "b"))
SHORT = (("put", "s", (2, 7)), ("take", "r", (1, 2)))


def column(rows):
    return tuple((number,) for number in range(rows))


def listed_rows(question, table):
    """All rows with the values that drawn stores have, and with one that they do not have."""
    return list(itertools.product((0, 1, 7), repeat=len(question.tables[table])))


def drawn_places(times, seed):
    for draw, question in drawn_questions(times, seed, most=4, columns=4):
        plan = drawn_plan(draw, question)
        yield draw, plan, drawn_store(draw, question, 5, 2)


class Dear(Strict, unittest.TestCase):
    def test_at_a_view(self):
        seen = set()
        for draw, plan, store in drawn_places(80, "dear"):
            for view, table in places_of_plan(plan):
                rows = listed_rows(plan.question, table)
                numbers = {row: len(touched_by_force(plan, view, table, row, store.rows)) for row in rows}
                most = max(numbers.values())
                self.assertSame(most_touched(plan, store, view, table), most)
                told = dearest_row(plan, store, view, table)
                self.assertIs(type(told), tuple)
                self.assertEqual(len(told), len(plan.question.tables[table]))
                self.assertEqual(len(touched_by_force(plan, view, table, told, store.rows)), most)
                self.assertIs(is_dearest_row(plan, store, view, table, told), True)
                for row in draw.sample(rows, min(6, len(rows))):
                    self.assertIs(is_dearest_row(plan, store, view, table, row), numbers[row] == most)
                seen.add((min(most, 3), len(set(numbers.values())) > 1))
        self.assertGreaterEqual(len(seen), 5)

    def test_in_all(self):
        apart = 0
        for draw, plan, store in drawn_places(150, "in all"):
            for table in plan.question.names:
                def summed(row):
                    return sum(len(touched_by_force(plan, view, table, row, store.rows)) for view in plan.path(table))
                most = max(map(summed, listed_rows(plan.question, table)))
                self.assertSame(most_in_all(plan, store, table), most)
                told = dearest_in_all(plan, store, table)
                self.assertIs(type(told), tuple)
                self.assertEqual(summed(told), most)
                self.assertEqual(sum(Keeper(plan, store).foreseen(table, told)), most)
                apart += most < sum(most_touched(plan, store, view, table) for view in plan.path(table))
        self.assertGreater(apart, 0)

    def test_dearest_below_and_not_above(self):
        # The value 1 meets many rows of s alone, the value 2 meets few of s and one of t.
        store = Store(TRI, {"s": tuple((1, at) for at in range(5)) + ((2, 9),), "t": ((4, 9),)})
        self.assertSame([most_touched(PLAN, store, RS, "r"), most_touched(PLAN, store, PLAN.root, "r")], [5, 1])
        self.assertSame([most_in_all(PLAN, store, "r"), dearest_in_all(PLAN, store, "r")[1], dearest_row(PLAN, store, PLAN.root, "r")], [6, 1, (4, 2)])

    def test_empty_stores(self):
        store = Store(TRI, {})
        self.assertSame([most_touched(PLAN, store, RS, "r"), most_touched(PLAN, store, ("r",), "r"), most_in_all(PLAN, store, "r")], [0, 1, 1])
        for row in ((0, 0), (5, -7), (LONGEST, -LONGEST)):
            self.assertIs(is_dearest_row(PLAN, store, RS, "r", row), True)
            self.assertIs(is_dearest_row(PLAN, store, ("r",), "r", row), True)
        self.assertSame([len(dearest_row(PLAN, store, RS, "r")), len(dearest_in_all(PLAN, store, "r"))], [2, 2])

    def test_great_values_and_full_tables(self):
        rows = tuple((LONGEST, number) for number in range(2000))
        store = Store(TRI, {"r": tuple((0, number) for number in range(2000)), "s": rows})
        self.assertSame([most_touched(PLAN, store, RS, "r"), dearest_row(PLAN, store, RS, "r")[1]], [2000, LONGEST])
        self.assertIs(is_dearest_row(PLAN, store, RS, "r", (-LONGEST, LONGEST)), True)
        self.assertSame(most_in_all(PLAN, store, "r"), 2001)

    def test_judge_of_other_values(self):
        store = Store(TRI, {"s": ((1, 1), (1, 2), (0, 5))})
        right = (9, 1)
        self.assertIs(is_dearest_row(PLAN, store, RS, "r", right), True)
        for value in [*(one for one in all_kinds() if one != (1, 2)), (9, True), [9, 1], (9,), (9, 1, 1), (9, "1"), (9, 0), ((9, 1),), (LONGEST + 1, 1),
                      (9, None), ("r", right)]:
            self.assertIs(is_dearest_row(PLAN, store, RS, "r", value), False)

    def test_limits(self):
        plan, deep = flat_plan(APART), Plan(APART, (("r", "s"),))
        full = Store(APART, {"r": column(2000), "s": column(50), "t": column(3)})
        more = full + ("s", (50,))
        self.assertSame([most_touched(plan, full, plan.root, "t"), most_in_all(plan, full, "t")], [100000, 100001])
        self.assertIs(is_dearest_row(plan, full, plan.root, "t", (LONGEST,)), True)
        for call in (
            lambda: most_touched(plan, more, plan.root, "t"), lambda: dearest_row(plan, more, plan.root, "t"),
            lambda: is_dearest_row(plan, more, plan.root, "t", (0,)), lambda: is_dearest_row(plan, more, plan.root, "t", None),
            lambda: most_in_all(plan, more, "t"), lambda: dearest_in_all(plan, more, "t"), lambda: most_in_all(deep, more, "t"),
        ):
            self.assertKeeps(TooMany, "limit", 100000, call)
        self.assertSame([most_touched(plan, more, plan.root, "r"), most_touched(plan, more, ("t",), "t"), most_in_all(deep, more, "s")], [51, 1, 4001])

    def test_examples(self):
        self.assertSame([most_touched(PLAN, THREE, RS, "r"), dearest_row(PLAN, THREE, PLAN.root, "r")[0], most_in_all(PLAN, THREE, "t")], [1, 1, 2])
        told = [total_of(PLAN, THREE, SHORT), run(PLAN, THREE, SHORT)[1], cheapest(THREE, SHORT), led_back(SHORT)]
        self.assertSame(told, [6, ((1, 1, 0), (1, 2, 1)), (3, ("(r (s t))", "(r s t)")), (("put", "r", (1, 2)), ("take", "s", (2, 7)))])


class Histories(Strict, unittest.TestCase):
    NEAR = (
        [("put", "t", (1, 6))], (["put", "t", (1, 6)],), (("put", "t"),), (("put", "t", (1, 6), None),), ("put", "t", (1, 6)),
        (("Put", "t", (1, 6)),), (("", "t", (1, 6)),), ((None, "t", (1, 6)),), ((["put"], "t", (1, 6)),), (("put", "zz", (1, 6)),),
        (("put", "T", (1, 6)),), (("put", None, (1, 6)),), (("put", "t", [1, 6]),), (("put", "t", (1,)),), (("put", "t", (1, 6, 7)),),
        (("put", "t", (1, True)),), (("put", "t", (1, "6")),), (("put", "t", (1, LONGEST + 1)),), (("put", "t", None),), (("put", "t", ()),),
        (("put", "t", (1, 5)),), (("take", "t", (1, 6)),), (("put", "t", (1, 6)), ("put", "t", (1, 6))), (("put", "t", (1, 6)), None),
        (("take", "t", (1, 5)), ("take", "t", (1, 5))), (("take", "r", (1, 5)),), {"put": ()}, {("put", "t", (1, 6)): 1}, "put t 1 6",
    )

    def test_near_ones(self):
        right = (("put", "t", (1, 6)),)
        self.assertIs(is_history(THREE, right), True)
        for value in [*self.NEAR, *(one for one in all_kinds() if one != ())]:
            self.assertIs(is_history(THREE, value), False)
            if isinstance(value, tuple):
                self.assertIs(is_history(THREE, (*right, value)), False)
            for call in (lambda: run(PLAN, THREE, value), lambda: total_of(PLAN, THREE, value), lambda: cheapest(THREE, value)):
                self.assertFails(InvalidOperation, call)

    def test_drawn_ones(self):
        for draw, question in drawn_questions(60, "histories"):
            store = drawn_store(draw, question, 4)
            told = drawn_history(draw, store, 30)
            self.assertIs(is_history(store, told), True)
            for at in (0, 10, 29):
                self.assertIs(is_history(store, (*told[:at], told[at], *told[at:])), False)
            word, table, row = told[-1]
            self.assertIs(is_history(store, told[:-1] + (("take" if word == "put" else "put", table, row),)), False)

    def test_lengths(self):
        self.assertIs(is_history(THREE, ()), True)
        both = (("put", "r", (0, 0)), ("take", "r", (0, 0)))
        self.assertIs(is_history(THREE, both * 100), True)
        self.assertIs(is_history(THREE, both * 100 + both[:1]), False)
        self.assertFails(InvalidOperation, run, PLAN, THREE, both * 100 + both[:1])
        self.assertSame(len(run(PLAN, THREE, both * 100)[1]), 200)
        self.assertSame(total_of(PLAN, THREE, ()), 0)
        self.assertSame(run(PLAN, THREE, ())[1], ())

    def test_full_tables(self):
        full = Store(TRI, {"r": tuple((0, number) for number in range(2000))})
        put, take = ("put", "r", (1, 1)), ("take", "r", (0, 7))
        self.assertIs(is_history(full, (put,)), False)
        self.assertIs(is_history(full, (take, put)), True)
        self.assertIs(is_history(full, (take, put, ("put", "r", (0, 7)))), False)
        self.assertIs(is_history(full - ("r", (0, 0)), (put,)), True)
        self.assertFails(InvalidOperation, run, PLAN, full, (put,))

    def test_runs(self):
        for draw, question in drawn_questions(60, "runs"):
            plan, store = drawn_plan(draw, question), drawn_store(draw, question, 4)
            told = drawn_history(draw, store, 25)
            keeper = Keeper(plan, store)
            numbers = tuple(keeper.put(*pair) if word == "put" else keeper.take(*pair) for word, *pair in told)
            self.assertSame(run(plan, store, told)[1], numbers)
            self.assertEqual(run(plan, store, told)[0], keeper.store)
            self.assertSame(total_of(plan, store, told), keeper.total)
            back = led_back(told)
            self.assertIs(is_history(keeper.store, back), True)
            self.assertEqual(run(plan, keeper.store, back)[0], store)
            self.assertSame(led_back(back), told)

    def test_cheapest(self):
        seen = set()
        for draw, question in drawn_questions(40, "cheapest"):
            store = drawn_store(draw, question, 4)
            told = drawn_history(draw, store, 12)
            totals = {plan.text: total_of(plan, store, told) for plan in all_plans(question)}
            least = min(totals.values())
            self.assertSame(cheapest(store, told), (least, tuple(sorted(text for text in totals if totals[text] == least))))
            seen.add((len(totals), len(cheapest(store, told)[1]) < len(totals)))
        self.assertLessEqual({(1, False), (4, True), (26, True)}, seen)

    def test_cheapest_of_five_tables(self):
        for draw in many(3, "five tables"):
            question = drawn_question(draw, 5, columns=6)
            store = drawn_store(draw, question, 6, 2)
            told = drawn_history(draw, store, 8, 2)
            totals = {plan.text: total_of(plan, store, told) for plan in each_plan(question)}
            least = min(totals.values())
            self.assertSame(cheapest(store, told), (least, tuple(sorted(text for text in totals if totals[text] == least))))

    def test_cheapest_at_the_limit(self):
        full = Store(APART, {"r": column(2000), "s": column(50)})
        put, take = ("put", "t", (7,)), ("take", "s", (3,))
        self.assertSame(cheapest(full, (put,))[0], min(total_of(plan, full, (put,)) for plan in all_plans(APART)))
        for history in ((put, ("put", "t", (8,))), (("put", "s", (50,)),), (take, ("put", "s", (3,)), ("put", "s", (50,)))):
            self.assertKeeps(TooMany, "limit", 100000, cheapest, full, history)
        for history in ((take, ("put", "s", (50,))), (put, ("take", "t", (7,)), ("put", "t", (8,))), (take, put)):
            self.assertSame(cheapest(full, history)[0], min(total_of(plan, full, history) for plan in all_plans(APART)))

    def test_cheapest_of_no_changes(self):
        self.assertSame(cheapest(THREE, ()), (0, ("((r s) t)", "((r t) s)", "(r (s t))", "(r s t)")))

    def test_led_back(self):
        told = (("put", "zz", (1, -2, 3, 4, 5, LONGEST)), ("take", "r", (0,)), ("take", "r", (0,)))
        self.assertSame(led_back(told), (("put", "r", (0,)), ("put", "r", (0,)), ("take", "zz", (1, -2, 3, 4, 5, LONGEST))))
        self.assertSame(led_back(()), ())
        self.assertSame(len(led_back(told[:1] * 200)), 200)
        for value in [
            *(one for one in all_kinds() if one != ()), told[:1] * 201, list(told), (("put", "r", ()),), (("put", "r", (1,) * 7),), (("put", "r", (True,)),),
            (("put", "r", (LONGEST + 1,)),), (("put", "R", (1,)),), (("put", "abcdefghi", (1,)),), (("set", "r", (1,)),), (("put", "r", [1]),),
            (["put", "r", (1,)],), (("put", "r"),), (("put", "r", (1,), 1),), ((None, "r", (1,)),), (({}, "r", (1,)),), ("put", "r", (1,)), "put r 1",
        ]:
            self.assertFails(InvalidOperation, led_back, value)


class Errors(Strict, unittest.TestCase):
    OTHER = Store(TRI.with_groups(("a",)), {})
    WRONG = [(0, None, InvalidPlan), (0, TRI, InvalidPlan), (0, THREE, InvalidPlan), (1, None, InvalidStore), (1, OTHER, InvalidStore),
             (1, Store(TRI.with_size("r", Ratio(0, 1)), {}), InvalidStore), (1, PLAN, InvalidStore)]

    def test_at_views(self):
        wrong = [*self.WRONG, (2, ("r", "t"), InvalidView), (2, None, InvalidView), (3, "t", UnknownName), (3, None, UnknownName)]
        for call in (most_touched, dearest_row):
            self.assertFirst(call, [PLAN, THREE, RS, "r"], wrong)
            for value in all_kinds():
                self.assertKeeps(UnknownName, "word", value, call, PLAN, THREE, RS, value)
                self.assertFails(InvalidView, call, PLAN, THREE, value, "r")
        for value in (None, (1, 2)):
            self.assertFirst(is_dearest_row, [PLAN, THREE, RS, "r", value], wrong)

    def test_in_all(self):
        wrong = [*self.WRONG, (2, "q", UnknownName), (2, None, UnknownName)]
        for call in (most_in_all, dearest_in_all):
            self.assertFirst(call, [PLAN, THREE, "r"], wrong)
            for value in [*all_kinds(), ("r",)]:
                self.assertKeeps(UnknownName, "word", value, call, PLAN, THREE, value)
            for value in kinds_but(Plan):
                self.assertFails(InvalidPlan, call, value, THREE, "r")
            for value in kinds_but(Store):
                self.assertFails(InvalidStore, call, PLAN, value, "r")

    def test_histories(self):
        wrong = [*self.WRONG, (2, None, InvalidOperation), (2, SHORT * 2, InvalidOperation), (2, list(SHORT), InvalidOperation)]
        for call in (run, total_of):
            self.assertFirst(call, [PLAN, THREE, SHORT], wrong)
        self.assertFirst(cheapest, [THREE, SHORT], [(0, None, InvalidStore), (0, TRI, InvalidStore), (1, None, InvalidOperation),
                                                   (1, SHORT[1:] * 2, InvalidOperation)])
        for value in kinds_but(Store):
            for told in ((), SHORT, None):
                self.assertFails(InvalidStore, is_history, value, told)
                self.assertFails(InvalidStore, cheapest, value, told)

    def test_too_many_readings(self):
        full = Store(APART, {"r": column(2000), "s": column(50)})
        plan, deep = flat_plan(APART), Plan(APART, (("r", "s"),))
        put = (("put", "s", (50,)),)
        self.assertSame(run(plan, full, put)[1], ((1, 0),))
        for call in (lambda: run(deep, full, put), lambda: total_of(deep, full, put), lambda: cheapest(full, put),
                     lambda: run(deep, full + ("s", (50,)), ()), lambda: cheapest(full + ("s", (50,)), ())):
            self.assertKeeps(TooMany, "limit", 100000, call)
        self.assertFails(InvalidOperation, run, deep, full + ("s", (50,)), put)

    def test_too_many_plans(self):
        six = Question({name: ("a",) for name in "pqrstu"}, ())
        store = Store(six, {})
        self.assertKeeps(TooMany, "limit", 300, cheapest, store, ())
        self.assertFails(InvalidOperation, cheapest, store, None)
        self.assertSame(total_of(flat_plan(six), store, (("put", "p", (1,)),)), 1)
        many = Store(Question({name: (name,) for name in "pqrstu"}, tuple("pqrstu")), {name: column(20) for name in "pqrstu"})
        self.assertKeeps(TooMany, "limit", 300, cheapest, many, ())
        self.assertIs(is_history(many, (("take", "p", (3,)),)), True)

    def test_path_example(self):
        store = Store(PATH, {"r": ((0, 1),), "s": ((1, 2),)})
        self.assertSame(cheapest(store, (("put", "t", (2, 3)),))[0], 2)
        self.assertIs(is_history(Store(STAR, {}), (("put", "u", (1,)),)), True)
