"""Stage 18, [18.1], [18.2] and [0.22]: plans for puts alone, and what takes cost."""

import math
import unittest

from tests.force import all_plans, amounts, drawn_plan, drawn_questions, drawn_weights, fraction, places_of_plan
from tests.samples import LONGEST, PLAN, STAR, TRI, Strict, all_kinds, kinds_but
from tests.test_weights import NO_WEIGHTS
from touchrows.base.questions import Question
from touchrows.base.ratios import Ratio
from touchrows.best.growing import each_least_total_plan, is_least_total_plan, least_total, least_total_plan, repeated_changes, saving
from touchrows.best.least import least_degree
from touchrows.errors import InvalidNumber, InvalidPlan, InvalidQuestion, InvalidView, InvalidWeights, TooMany, UnknownName
from touchrows.keep.dear import is_history, run
from touchrows.plan.plans import Plan, flat_plan
from touchrows.weigh.totals import plan_total, total_degree
from touchrows.weigh.weights import degree, filling, is_filling
from touchrows.weigh.worst import spread, worst_row, worst_store, worst_touched

FLAT = flat_plan(TRI)
RS = ("r", "s")
SIX = Question({name: ("a", "b") for name in "pqrstu"}, ("a",))
ONE = (("c", (1, 1)),)


def total_by_force(plan):
    return max(fraction(total_degree(plan, view, table)) for view, table in places_of_plan(plan))


class Plans(Strict, unittest.TestCase):
    def check_question(self, question):
        told = [(plan, total_by_force(plan)) for plan in all_plans(question)]
        least = min(one for _, one in told)
        plans = [plan for plan, one in told if one == least]
        self.assertEqual(fraction(least_total(question)), least)
        self.assertIs(type(least_total(question)), Ratio)
        self.assertEqual(list(each_least_total_plan(question)), plans)
        self.assertIn(least_total_plan(question), plans)
        for plan, _ in told:
            self.assertIs(is_least_total_plan(question, plan), plan in plans)
        self.assertFalse(least_total(question).is_less(least_degree(question)))
        return len(plans) < len(told), least.denominator > 1

    def test_by_force(self):
        seen = set()
        for _, question in drawn_questions(40, "least totals", columns=5):
            seen.add(self.check_question(question))
        for _, question in drawn_questions(40, "least total sizes", columns=5, sizes=True):
            seen.add(self.check_question(question))
        self.assertEqual(len(seen), 4)

    def test_five_tables(self):
        question = Question({"p": ("a", "b"), "q": ("b", "c"), "r": ("a", "c"), "s": ("c", "d"), "t": ("d", "e")}, ("a",))
        self.assertEqual(plan_total(least_total_plan(question)), least_total(question))

    def test_one_table(self):
        one = Question({"r": ("a",)}, (), sizes={"r": Ratio(1, 2)})
        self.assertSame([str(least_total(one)), str(least_total_plan(one))], ["1/2", "r"])

    def test_judge(self):
        for value in [*(one for one in kinds_but(Plan)), "(r s t)", FLAT.views]:
            self.assertIs(is_least_total_plan(TRI, value), False)
        for question in (TRI.with_groups(("a",)), TRI.with_size("r", Ratio(1, 2)), STAR):
            self.assertIs(is_least_total_plan(TRI, flat_plan(question)), False)
        self.assertIs(is_least_total_plan(TRI, FLAT), True)

    def test_many_plans(self):
        for call in (lambda: least_total(SIX), lambda: least_total_plan(SIX), lambda: is_least_total_plan(SIX, None),
                     lambda: is_least_total_plan(SIX, flat_plan(SIX)), lambda: next(each_least_total_plan(SIX))):
            self.assertKeeps(TooMany, "limit", 300, call)
        told = each_least_total_plan(SIX)
        self.assertKeeps(TooMany, "limit", 300, next, told)

    def test_errors(self):
        for value in kinds_but(Question):
            for call in (least_total, least_total_plan, lambda one: list(each_least_total_plan(one)), lambda one: is_least_total_plan(one, FLAT)):
                self.assertFails(InvalidQuestion, call, value)
        told = each_least_total_plan(None)
        self.assertFails(InvalidQuestion, next, told)

    def test_examples(self):
        told = [str(least_total(TRI)), str(least_total_plan(TRI)), str(least_degree(TRI)), is_least_total_plan(TRI, PLAN), str(saving(FLAT, FLAT.root, "r"))]
        self.assertSame(told, ["3/2", "(r s t)", "1", False, "1/2"])
        store, changes = repeated_changes(PLAN, RS, "r", ONE, 5, 3)
        self.assertSame([len(store), changes[1], run(PLAN, store, changes)[1]], [5, ("take", "r", (0, 0)), ((1, 5, 0), (1, 5, 0), (1, 5, 0))])


class Saving(Strict, unittest.TestCase):
    PLACES = [(0, None, InvalidPlan), (0, TRI, InvalidPlan), (1, ("r", "t"), InvalidView), (1, None, InvalidView), (2, "t", UnknownName), (2, None, UnknownName)]

    def test_never_below_zero(self):
        seen = set()
        for _, question in drawn_questions(40, "saving", sizes=True):
            for plan in all_plans(question):
                for view, table in places_of_plan(plan):
                    told = saving(plan, view, table)
                    single, total = fraction(degree(plan, view, table)), fraction(total_degree(plan, view, table))
                    self.assertEqual(fraction(told), fraction(question.sizes[table]) + single - total)
                    self.assertGreaterEqual(fraction(told), 0)
                    self.assertLessEqual(single, total)
                    seen.add(bool(told))
        self.assertEqual(seen, {True, False})

    def test_errors(self):
        self.assertFirst(saving, [PLAN, RS, "r"], self.PLACES)
        for value in all_kinds():
            self.assertKeeps(UnknownName, "word", value, saving, PLAN, RS, value)
            self.assertFails(InvalidView, saving, PLAN, value, "r")


class Repeated(Strict, unittest.TestCase):
    def test_touch_just_so_many(self):
        seen = set()
        for draw, question in drawn_questions(120, "repeated", columns=4):
            sizes = {name: draw.choice((Ratio(1, 1), Ratio(1, 2), Ratio(0, 1))) for name in question.names}
            plan = drawn_plan(draw, Question(question.tables, question.groups, sizes=sizes))
            for view, table in places_of_plan(plan):
                weights = draw.choice((filling(plan, view, table), drawn_weights(draw, plan.open_columns(view, table)), ()))
                if not is_filling(plan, view, table, weights):
                    continue
                number, many = draw.choice((1, 2, 3)), draw.choice((0, 1, 2, 5))
                common = spread(plan, view, table, weights)
                greatest = number ** int(common * max([0, *[sum(amounts(weights).get(one, 0) for one in plan.question.tables[name]) for name in view if name != table]]))
                if greatest > 60:
                    continue
                store, changes = repeated_changes(plan, view, table, weights, number, many)
                self.assertEqual(store, worst_store(plan, view, table, weights, number))
                row = worst_row(plan, table)
                self.assertSame(changes, tuple(("take" if at % 2 else "put", table, row) for at in range(many)))
                self.assertIs(is_history(store, changes), True)
                at = plan.path(table).index(view)
                wanted = worst_touched(plan, view, table, weights, number)
                try:
                    touched = run(plan, store, changes)[1]
                except TooMany:
                    continue
                self.assertSame([numbers[at] for numbers in touched], [wanted] * many)
                seen.add((many, wanted > 1))
        self.assertEqual(len(seen), 8)

    def test_lengths(self):
        store, changes = repeated_changes(PLAN, RS, "r", ONE, 5, 200)
        self.assertSame([len(changes), changes[0], changes[-1]], [200, ("put", "r", (0, 0)), ("take", "r", (0, 0))])
        self.assertSame({numbers[1] for numbers in run(PLAN, store, changes)[1]}.pop(), 5)
        self.assertSame(repeated_changes(PLAN, RS, "r", ONE, 5, 0)[1], ())
        for value in (201, -1, LONGEST, 10 ** 99, -LONGEST, *kinds_but(int)):
            self.assertKeeps(InvalidNumber, "value", value, repeated_changes, PLAN, RS, "r", ONE, 5, value)

    def test_great_numbers(self):
        question = TRI.with_size("s", Ratio(2, 1))
        plan = Plan(question, (RS,))
        weights = (("c", (2, 1)),)
        self.assertSame(len(repeated_changes(plan, RS, "r", weights, 44, 1)[0]), 44 * 44)
        self.assertKeeps(TooMany, "limit", 2000, repeated_changes, plan, RS, "r", weights, 45, 1)
        self.assertKeeps(InvalidNumber, "value", 201, repeated_changes, plan, RS, "r", weights, 45, 201)
        self.assertKeeps(InvalidNumber, "value", 0, repeated_changes, plan, RS, "r", weights, 0, 201)
        self.assertEqual(math.isqrt(2000), 44)

    def test_errors(self):
        wrong = [*Saving.PLACES, (3, None, InvalidWeights), (3, (("c", (2, 1)),), InvalidWeights), (3, (("s", (1, 1)),), InvalidWeights), (4, 0, InvalidNumber),
                 (4, 1001, InvalidNumber), (4, True, InvalidNumber), (5, 201, InvalidNumber), (5, -1, InvalidNumber), (5, None, InvalidNumber)]
        self.assertFirst(repeated_changes, [PLAN, RS, "r", ONE, 5, 3], wrong)
        for value in NO_WEIGHTS:
            self.assertFails(InvalidWeights, repeated_changes, PLAN, RS, "r", value, None, None)
        for value in [*kinds_but(int), 0, -5, 1001]:
            self.assertKeeps(InvalidNumber, "value", value, repeated_changes, PLAN, RS, "r", ONE, value, None)
