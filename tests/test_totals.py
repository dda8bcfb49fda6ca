"""Stage 17, [17.1] to [17.3] and [0.22]: puts alone."""

import math
import unittest

from tests.force import (
    amounts, columns_of, covers_by_force, drawn_history, drawn_plan, drawn_questions, drawn_weights, fills_by_force, fraction, met_by_force,
    places_of_plan, price_by_force, readings_by_force,
)
from tests.samples import LONGEST, PLAN, STAR, THREE, TRI, Strict, all_kinds, kinds_but
from tests.test_weights import NO_WEIGHTS
from touchrows.base.questions import Question
from touchrows.base.ratios import Ratio
from touchrows.data.stores import Store
from touchrows.errors import InvalidNumber, InvalidOperation, InvalidPlan, InvalidView, InvalidWeights, TooMany, UnknownName
from touchrows.keep.dear import is_history
from touchrows.keep.keepers import Keeper
from touchrows.plan.plans import Plan, flat_plan
from touchrows.plan.shapes import each_plan
from touchrows.weigh.totals import (
    growing_history, is_total_covering, is_total_filling, plan_total, table_total, total_columns, total_covering, total_degree,
    total_filling, touched_by_puts,
)
from touchrows.weigh.weights import degree

FLAT = flat_plan(TRI)
RS = ("r", "s")
HALVES = (("a", (1, 2)), ("b", (1, 2)), ("c", (1, 2)))
APART = Question({"r": ("a",), "s": ("b",), "t": ("c",)}, ("a", "b"))


def total_by_force(plan, view, table):
    return tuple(sorted({*met_by_force(plan, view), *plan.question.tables[table]}))


def touched_by_keeper(plan, history, view, table):
    keeper, total = Keeper(plan, Store(plan.question, {})), 0
    for word, name, row in history:
        numbers = keeper.put(name, row)
        if name == table:
            total += numbers[plan.path(table).index(view)]
    return total


def growing_by_force(plan, view, table, weights, number):
    """The growing history, made of all rows in a range and of those that the weights leave."""
    question, told = plan.question, amounts(weights)
    common = math.lcm(*[one.denominator for one in (*told.values(), *map(fraction, question.sizes.values()))])
    most = {column: number ** int(common * told.get(column, 0)) for column in question.columns}
    puts = []
    for name in [*(one for one in view if one != table), table]:
        rows = [()]
        for column in question.tables[name]:
            rows = [(*row, value) for row in rows for value in range(most[column])]
        puts.extend(("put", name, row) for row in sorted(rows))
    return tuple(puts), number ** int(common * sum(told.values()))


class Told(Strict, unittest.TestCase):
    def check_place(self, plan, view, table):
        question = plan.question
        columns = total_by_force(plan, view, table)
        self.assertSame(total_columns(plan, view, table), columns)
        cover, fill, told = total_covering(plan, view, table), total_filling(plan, view, table), total_degree(plan, view, table)
        self.assertIs(type(told), Ratio)
        self.assertTrue(covers_by_force(question, view, columns, cover))
        self.assertTrue(fills_by_force(question, view, columns, fill))
        self.assertEqual([price_by_force(question, cover), sum(amounts(fill).values())], [fraction(told)] * 2)
        self.assertTrue(all(weight <= 1 for weight in amounts(cover).values()))
        self.assertLessEqual(math.lcm(*[pair[1] for _, pair in cover]), 24)
        self.assertTrue(all(max(pair) < 10 ** 50 for _, pair in (*cover, *fill)))
        self.assertIs(is_total_covering(plan, view, table, cover), True)
        self.assertIs(is_total_filling(plan, view, table, fill), True)
        single, size = fraction(degree(plan, view, table)), fraction(question.sizes[table])
        self.assertLessEqual(single, fraction(told))
        self.assertLessEqual(fraction(told), single + size)
        return single < fraction(told), fraction(told) < single + size

    def test_all_plans(self):
        seen = set()
        for _, question in drawn_questions(50, "totals", columns=8):
            for plan in each_plan(question):
                seen |= {self.check_place(plan, view, table) for view, table in places_of_plan(plan)}
        self.assertEqual(len(seen), 3)

    def test_drawn_sizes(self):
        for _, question in drawn_questions(50, "total sizes", columns=8, sizes=True):
            for plan in each_plan(question):
                for view, table in places_of_plan(plan):
                    self.check_place(plan, view, table)

    def test_six_tables(self):
        for draw, question in drawn_questions(25, "six totals", most=6, columns=8, sizes=True):
            plan = drawn_plan(draw, question)
            for view, table in places_of_plan(plan):
                self.check_place(plan, view, table)

    def test_of_tables_and_plans(self):
        for draw, question in drawn_questions(60, "greatest totals", most=5, sizes=True):
            plan = drawn_plan(draw, question)
            told = {table: max(fraction(total_degree(plan, view, table)) for view in plan.path(table)) for table in question.names}
            for table in told:
                self.assertEqual(fraction(table_total(plan, table)), told[table])
            self.assertEqual(fraction(plan_total(plan)), max(told.values()))

    def test_one_table(self):
        plan = flat_plan(Question({"r": ("a", "b")}, (), sizes={"r": Ratio(3, 2)}))
        self.assertSame([total_columns(plan, ("r",), "r"), str(plan_total(plan)), total_covering(plan, ("r",), "r")], [("a", "b"), "3/2", (("r", (1, 1)),)])

    def test_columns_of_the_table_count_where_they_are_not_met(self):
        self.assertSame([PLAN.met(PLAN.root), total_columns(PLAN, PLAN.root, "r"), total_columns(PLAN, PLAN.root, "t")], [("a", "c"), ("a", "b", "c"), ("a", "c")])


class Judges(Strict, unittest.TestCase):
    def test_drawn_weights(self):
        seen = set()
        for draw, question in drawn_questions(60, "total judges", sizes=True):
            plan = drawn_plan(draw, question)
            for view, table in places_of_plan(plan):
                columns = total_by_force(plan, view, table)
                for _ in range(6):
                    value = drawn_weights(draw, view)
                    covers = covers_by_force(question, view, columns, value)
                    self.assertIs(is_total_covering(plan, view, table, value), covers)
                    value = drawn_weights(draw, columns)
                    fills = fills_by_force(question, view, columns, value)
                    self.assertIs(is_total_filling(plan, view, table, value), fills)
                    seen |= {("covers", covers), ("fills", fills)}
        self.assertEqual(len(seen), 4)

    def test_whatever_price_or_worth(self):
        self.assertIs(is_total_covering(FLAT, FLAT.root, "r", (("r", (9, 1)), ("s", (5, 2)), ("t", (1, 9)))), True)
        self.assertIs(is_total_covering(FLAT, FLAT.root, "r", (("r", (1, 2)), ("s", (1, 2)), ("t", (LONGEST - 1, LONGEST)))), True)
        self.assertIs(is_total_covering(FLAT, FLAT.root, "r", (("r", (1, 2)), ("s", (1, 2)))), False)
        self.assertIs(is_total_covering(FLAT, FLAT.root, "r", (("r", (1, 2)), ("s", (1, 2)), ("t", (LONGEST // 2, LONGEST)))), False)
        for value in ((), (("a", (1, 9)),), HALVES, (("a", (1, 1)),), (("a", (1, LONGEST)),)):
            self.assertIs(is_total_filling(FLAT, FLAT.root, "r", value), True)
        for value in ((("a", (LONGEST, LONGEST - 1)),), (("a", (1, 2)), ("b", (2, 3))), (("d", (1, 9)),), (("r", (1, 2)),)):
            self.assertIs(is_total_filling(FLAT, FLAT.root, "r", value), False)

    def test_other_values(self):
        for value in [one for one in (*NO_WEIGHTS, *all_kinds()) if one != ()]:
            self.assertIs(is_total_covering(FLAT, FLAT.root, "r", value), False)
            self.assertIs(is_total_filling(FLAT, FLAT.root, "r", value), False)
        self.assertIs(is_total_covering(PLAN, RS, "r", (("r", (1, 1)), ("s", (1, 1)), ("t", (1, 1)))), False)
        self.assertIs(is_total_filling(PLAN, PLAN.root, "t", (("b", (1, 2)),)), False)
        self.assertIs(is_total_filling(PLAN, PLAN.root, "r", (("b", (1, 2)),)), True)


class Growing(Strict, unittest.TestCase):
    def test_touch_just_so_many(self):
        grown, many = 0, 0
        for draw, question in drawn_questions(150, "growing", columns=4):
            sizes = {name: draw.choice((Ratio(1, 1), Ratio(1, 1), Ratio(1, 2), Ratio(0, 1))) for name in question.names}
            plan = drawn_plan(draw, Question(question.tables, question.groups, sizes=sizes))
            for view, table in places_of_plan(plan):
                columns = total_columns(plan, view, table)
                weights = draw.choice((total_filling(plan, view, table), drawn_weights(draw, columns), (), *[((name, (1, 2)),) for name in columns]))
                if not is_total_filling(plan, view, table, weights):
                    continue
                number = draw.choice((1, 2, 2, 3))
                wanted, touched = growing_by_force(plan, view, table, weights, number)
                if len(wanted) > 200:
                    self.assertKeeps(TooMany, "limit", 200, growing_history, plan, view, table, weights, number)
                    many += 1
                    continue
                told = growing_history(plan, view, table, weights, number)
                self.assertSame(told, wanted)
                self.assertSame(touched_by_puts(plan, told, view, table), touched)
                self.assertEqual(touched_by_keeper(plan, told, view, table), touched)
                grown += touched > 1
        self.assertGreater(grown, 30)
        self.assertGreater(many, 3)

    def test_two_hundred_and_one_more(self):
        question = Question({"r": ("a",), "s": ("b",)}, ("a", "b"))
        plan = flat_plan(question)
        both = (("a", (1, 1)), ("b", (1, 1)))
        self.assertSame([len(growing_history(plan, plan.root, "s", both, 100)), touched_by_puts(plan, growing_history(plan, plan.root, "s", both, 100), plan.root, "s")],
                        [200, 10000])
        self.assertKeeps(TooMany, "limit", 200, growing_history, plan, plan.root, "s", both, 101)
        one = (("a", (1, 1)),)
        self.assertSame(len(growing_history(plan, plan.root, "s", one, 199)), 200)
        for number in (200, 201, 1000):
            self.assertKeeps(TooMany, "limit", 200, growing_history, plan, plan.root, "s", one, number)
        self.assertSame(growing_history(plan, plan.root, "r", (), 1000), (("put", "s", (0,)), ("put", "r", (0,))))
        self.assertSame(len(growing_history(plan, ("r",), "r", one, 200)), 200)
        self.assertKeeps(TooMany, "limit", 200, growing_history, plan, ("r",), "r", one, 201)

    def test_great_denominators(self):
        weights = (("a", (1, LONGEST)),)
        self.assertSame(len(growing_history(FLAT, FLAT.root, "r", weights, 1)), 3)
        self.assertSame(len(growing_history(FLAT, FLAT.root, "r", weights, 2)), 5)
        great = (("a", (LONGEST - 1, LONGEST)),)
        self.assertSame(len(growing_history(FLAT, FLAT.root, "r", great, 1)), 3)
        self.assertKeeps(TooMany, "limit", 200, growing_history, FLAT, FLAT.root, "r", great, 2)

    def test_never_more_than_the_bound(self):
        for draw, question in drawn_questions(80, "bound of puts"):
            plan = drawn_plan(draw, question)
            history = tuple(change for change in dict.fromkeys(("put", *one[1:]) for one in drawn_history(draw, Store(question, {}), 25, 2)))
            self.assertIs(is_history(Store(question, {}), history), True)
            counts = {name: sum(change[1] == name for change in history) for name in question.names}
            for view, table in places_of_plan(plan):
                told = touched_by_puts(plan, history, view, table)
                self.assertSame(told, touched_by_keeper(plan, history, view, table))
                cover = amounts(total_covering(plan, view, table))
                common = math.lcm(*[one.denominator for one in cover.values()])
                self.assertLessEqual(told ** common, math.prod(counts[name] ** int(one * common) for name, one in cover.items()))

    def test_all_tables_together(self):
        seen = 0
        for draw, question in drawn_questions(150, "together"):
            plan = drawn_plan(draw, question.with_groups(question.columns) if draw.random() < 0.5 else question)
            history = list(dict.fromkeys(("put", *one[1:]) for one in drawn_history(draw, Store(question, {}), 20, 2)))
            draw.shuffle(history)
            rows = {name: [row for _, table, row in history if table == name] for name in question.names}
            for view in plan.views:
                if set(columns_of(plan.question, view)) <= set(plan.met(view)):
                    total = sum(touched_by_puts(plan, tuple(history), view, table) for table in view)
                    self.assertEqual(total, len(readings_by_force(question, rows, view)))
                    seen += total > 0 and len(view) > 1
        self.assertGreater(seen, 20)

    def test_examples(self):
        told = [total_columns(FLAT, FLAT.root, "r"), str(total_degree(FLAT, FLAT.root, "r")), str(total_degree(PLAN, RS, "r")), str(plan_total(FLAT)),
                str(plan_total(PLAN))]
        self.assertSame(told, [("a", "b", "c"), "3/2", "2", "3/2", "2"])
        growing = growing_history(FLAT, FLAT.root, "t", HALVES, 2)
        self.assertSame([len(growing), growing[-1], touched_by_puts(FLAT, growing, FLAT.root, "t"), total_covering(FLAT, FLAT.root, "t")],
                        [12, ("put", "t", (1, 1)), 8, (("r", (1, 2)), ("s", (1, 2)), ("t", (1, 2)))])


class Errors(Strict, unittest.TestCase):
    PLACES = [(0, None, InvalidPlan), (0, TRI, InvalidPlan), (1, ("r", "t"), InvalidView), (1, None, InvalidView), (2, "t", UnknownName), (2, None, UnknownName)]

    def test_places(self):
        for call in (total_columns, total_degree, total_covering, total_filling):
            self.assertFirst(call, [PLAN, RS, "r"], self.PLACES)
            for value in all_kinds():
                self.assertFails(InvalidView, call, PLAN, value, "r")
                self.assertKeeps(UnknownName, "word", value, call, PLAN, RS, value)
        for call in (is_total_covering, is_total_filling):
            for value in (None, ()):
                self.assertFirst(call, [PLAN, RS, "r", value], self.PLACES)

    def test_tables(self):
        self.assertFirst(table_total, [PLAN, "r"], [(0, None, InvalidPlan), (1, "q", UnknownName), (1, None, UnknownName)])
        for value in [*all_kinds(), ("r",)]:
            self.assertKeeps(UnknownName, "word", value, table_total, PLAN, value)
        for value in kinds_but(Plan):
            self.assertFails(InvalidPlan, plan_total, value)
            self.assertFails(InvalidPlan, table_total, value, "q")

    def test_growing(self):
        wrong = [*self.PLACES, (3, None, InvalidWeights), (3, (("a", (2, 1)),), InvalidWeights), (3, (("r", (1, 1)),), InvalidWeights), (4, 0, InvalidNumber),
                 (4, None, InvalidNumber), (4, 1000, TooMany)]
        self.assertFirst(growing_history, [PLAN, RS, "r", (("a", (1, 1)), ("c", (1, 1))), 3], wrong)
        for value in [*(one for one in all_kinds() if type(one) is not int or not 1 <= one <= 1000), 1001]:
            self.assertKeeps(InvalidNumber, "value", value, growing_history, PLAN, RS, "r", (), value)
        for value in NO_WEIGHTS:
            self.assertFails(InvalidWeights, growing_history, PLAN, RS, "r", value, None)

    def test_touched(self):
        puts = (("put", "r", (1, 2)), ("put", "s", (2, 3)))
        wrong = [(0, None, InvalidPlan), (0, THREE, InvalidPlan), (1, None, InvalidOperation), (1, puts[:1] * 2, InvalidOperation),
                 (1, (*puts, ("take", "r", (1, 2))), InvalidOperation), (1, list(puts), InvalidOperation), (2, ("r", "t"), InvalidView), (2, None, InvalidView),
                 (3, "t", UnknownName), (3, None, UnknownName)]
        self.assertFirst(touched_by_puts, [PLAN, puts, RS, "r"], wrong)
        for value in [one for one in all_kinds() if one != ()]:
            self.assertFails(InvalidOperation, touched_by_puts, PLAN, value, RS, "r")
        for value in ((("put", "q", (1, 2)),), (("put", "r", (1,)),), tuple(("put", "r", (0, at)) for at in range(201)), (("take", "r", (1, 2)),)):
            self.assertFails(InvalidOperation, touched_by_puts, PLAN, value, RS, "r")
        self.assertSame([touched_by_puts(PLAN, (), RS, "r"), touched_by_puts(PLAN, puts, RS, "s"), touched_by_puts(PLAN, puts, RS, "r"),
                         touched_by_puts(PLAN, puts[::-1], RS, "r"), touched_by_puts(PLAN, puts, ("r",), "r")], [0, 1, 0, 1, 1])

    def test_many_readings(self):
        puts = tuple(("put", name, (at,)) for name in "rst" for at in range(66))
        plan = flat_plan(APART)
        self.assertKeeps(TooMany, "limit", 100000, touched_by_puts, plan, puts, plan.root, "t")
        self.assertSame(touched_by_puts(plan, puts[:-45], plan.root, "t"), 21 * 66 * 66)
        self.assertSame(touched_by_puts(flat_plan(STAR), (), STAR.names, "r"), 0)
