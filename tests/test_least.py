"""Stage 12, [12.1], [12.2] and [0.20]: least plans, bills and fronts."""

import unittest

from tests.force import all_plans, covers_by_force, drawn_questions, fraction, open_by_force, places_of_plan, price_by_force
from tests.samples import LONGEST, PATH, PLAN, STAR, THREE, TRI, Strict, all_kinds, kinds_but
from touchrows.base.questions import Question
from touchrows.base.ratios import Ratio
from touchrows.best.least import (
    MAX_PLANS, bill, each_least_plan, front, is_lean, is_least_plan, least_degree, least_for, least_plan, plan_for, plan_with,
)
from touchrows.best.nested import has_constant_plan
from touchrows.errors import InvalidOperation, InvalidPlan, InvalidQuestion, TooMany, UnknownName
from touchrows.plan.plans import Plan, flat_plan
from touchrows.plan.shapes import count_plans, each_plan
from touchrows.weigh.programs import Program
from touchrows.weigh.rooms import plan_degree, table_degree
from touchrows.weigh.weights import degree

SIX = Question({name: ("a", "b") for name in "pqrstu"}, ("a",))
FIVE = Question({"p": ("a", "b"), "q": ("b", "c"), "r": ("c", "d"), "s": ("d", "e"), "t": ("e", "f")}, ("a",))
DEEP = Question({"r": ("a", "b", "c"), "s": ("a", "b"), "t": ("a", "d"), "u": ("a", "b", "c")}, ("a",))


def bill_by_force(plan):
    return tuple(
        max(fraction(degree(plan, view, table)) for view in plan.views if table in view) for table in plan.question.names
    )


def pairs(told):
    return tuple((one.numerator, one.denominator) for one in told)


def is_below(one, other):
    """Whether a bill is nowhere greater than another one, and somewhere less."""
    return one != other and all(p * v <= u * q for (p, q), (u, v) in zip(one, other))


def told_by_force(question):
    """All plans for a question with their bills, as fractions."""
    return [(plan, bill_by_force(plan)) for plan in all_plans(question)]


class ByForce(Strict, unittest.TestCase):
    def check_question(self, question):
        told = told_by_force(question)
        least = min(max(one) for _, one in told)
        plans = [plan for plan, one in told if max(one) == least]
        self.assertEqual(fraction(least_degree(question)), least)
        self.assertIs(type(least_degree(question)), Ratio)
        self.assertEqual(list(each_least_plan(question)), plans)
        self.assertIn(least_plan(question), plans)
        for plan, one in told:
            self.assertIs(is_least_plan(question, plan), plan in plans)
            self.assertSame(bill(plan), pairs(one))
        bills = {one for _, one in told}
        lean = [one for one in bills if not any(
            other != one and all(mine <= its for mine, its in zip(other, one)) for other in bills)]
        self.assertSame(front(question), tuple(sorted(map(pairs, lean))))
        for one in bills:
            self.assertIs(is_lean(question, pairs(one)), one in lean)
            found = plan_with(question, pairs(one))
            self.assertEqual((found.question, bill(found)), (question, pairs(one)))
        return len(plans) < len(told), len(lean) < len(bills), len(lean) > 1

    def test_drawn_questions(self):
        seen = set()
        for _, question in drawn_questions(60, "least"):
            seen.add(self.check_question(question))
        for _, question in drawn_questions(60, "least sizes", sizes=True):
            seen.add(self.check_question(question))
        self.assertGreaterEqual(len(seen), 5)

    def test_five_tables(self):
        question = FIVE.with_groups(("a", "f")).with_size("r", Ratio(1, 2)).with_size("p", Ratio(0, 1))
        bills = {plan.text: bill_by_force(plan) for plan in each_plan(question)}
        least = min(map(max, bills.values()))
        self.assertEqual(fraction(least_degree(question)), least)
        self.assertEqual([plan.text for plan in each_least_plan(question)], [text for text in bills if max(bills[text]) == least])
        told = front(question)
        self.assertSame(told, tuple(sorted(set(told))))
        wanted = {pairs(one) for one in bills.values()}
        self.assertLess(len(told), len(wanted))
        for one in wanted:
            self.assertIs(one in told, not any(is_below(other, one) for other in wanted))
        self.assertSame([bill(plan_with(question, one)) for one in told], list(told))

    def test_of_one_table(self):
        for draw, question in drawn_questions(100, "for", most=4, sizes=True):
            plans = all_plans(question)
            for table in question.names:
                told = fraction(least_for(question, table))
                self.assertEqual(told, min(fraction(table_degree(plan, table)) for plan in plans))
                found = plan_for(question, table)
                self.assertEqual(found.question, question)
                self.assertEqual(fraction(table_degree(found, table)), told)
                others = [name for name in question.names if name != table]
                columns = [column for column in question.groups if column not in question.tables[table]]
                cover = Program(question, others, columns).covering()
                self.assertTrue(covers_by_force(question, others, columns, cover))
                self.assertEqual(price_by_force(question, cover), told)

    def test_constant_plans_are_least(self):
        seen = set()
        for _, question in drawn_questions(150, "whole"):
            told = least_degree(question)
            self.assertIs(bool(told), not has_constant_plan(question))
            self.assertFalse(told and told.is_less(Ratio(1, 1)))
            seen.add(bool(told))
        self.assertEqual(seen, {True, False})


class Many(Strict, unittest.TestCase):
    def test_where_all_are_compared(self):
        self.assertEqual((MAX_PLANS, count_plans(SIX), count_plans(FIVE)), (300, 2752, 236))
        for call in (
            lambda: least_degree(SIX), lambda: least_plan(SIX), lambda: is_least_plan(SIX, None), lambda: is_least_plan(SIX, flat_plan(SIX)),
            lambda: next(each_least_plan(SIX)), lambda: front(SIX), lambda: plan_with(SIX, None), lambda: plan_with(SIX, bill(flat_plan(SIX))),
            lambda: is_lean(SIX, None), lambda: is_lean(SIX, bill(flat_plan(SIX))),
        ):
            self.assertKeeps(TooMany, "limit", 300, call)

    def test_where_none_is(self):
        self.assertSame(bill(flat_plan(SIX)), ((0, 1),) * 6)
        six = SIX.with_table("p", ("c",)).with_groups(("a", "b", "c")).with_size("p", Ratio(5, 2))
        self.assertSame([str(least_for(six, "q")), str(least_for(six, "p"))], ["5/2", "1"])
        for table in six.names:
            told = plan_for(six, table)
            self.assertEqual((table_degree(told, table), told.question), (least_for(six, table), six))

    def test_generators_raise_late(self):
        told = each_least_plan(SIX)
        self.assertKeeps(TooMany, "limit", 300, next, told)
        told = each_least_plan(None)
        self.assertFails(InvalidQuestion, next, told)


class Known(Strict, unittest.TestCase):
    def test_one_table(self):
        one = Question({"r": ("a", "b")}, ("a",))
        self.assertSame([str(least_degree(one)), str(least_for(one, "r")), front(one), is_lean(one, ((0, 1),))], ["0", "0", (((0, 1),),), True])
        self.assertEqual([least_plan(one), plan_for(one, "r"), plan_with(one, ((0, 1),))], [flat_plan(one)] * 3)

    def test_two_tables(self):
        two = Question({"r": ("a", "b"), "s": ("b", "c")}, ("a", "c"), sizes={"s": Ratio(1, 2)})
        self.assertSame([front(two), bill(flat_plan(two)), str(least_degree(two))], [(((1, 2), (1, 1)),), ((1, 2), (1, 1)), "1"])
        self.assertEqual(plan_for(two, "r"), flat_plan(two))

    def test_judge_of_plans(self):
        for value in [*kinds_but(Plan), "((r s) t)", PLAN.views]:
            self.assertIs(is_least_plan(TRI, value), False)
        for question in (TRI.with_groups(("a",)), TRI.with_size("r", Ratio(1, 2)), TRI.with_table("u", ("a",)), STAR):
            for plan in (flat_plan(question), Plan(question, (("r", "s"),))):
                self.assertIs(is_least_plan(TRI, plan), False)
        self.assertIs(is_least_plan(TRI, PLAN), True)
        self.assertIs(is_least_plan(DEEP, flat_plan(DEEP)), False)

    def test_judge_of_bills(self):
        right = ((1, 1), (1, 1), (0, 1))
        self.assertIs(is_lean(TRI, right), True)
        for value in [
            *all_kinds(), list(right), right[:2], (*right, (0, 1)), ((1, 1), (1, 1), (False, 1)), ((True, 1), (1, 1), (0, 1)),
            ((1, True), (1, 1), (0, 1)), ((1, 1), (1, 1), [0, 1]), ((1, 1), (1, 1), (0, 2)), ((2, 2), (1, 1), (0, 1)),
            ((1, 1), (1, 1), (0,)), ((1, 1), (1, 1), Ratio(0, 1)), ((1, 1), (1, 1), 0), ((0, 1), (0, 1), (0, 1)), ((1, 1),) * 3,
            ((1, 1), (1, 1), (0, 1, 1)), ((1, 1), (1, 1), (LONGEST, 1)), ("r", "s", "t"),
        ]:
            self.assertIs(is_lean(TRI, value), False)
            if value != ((1, 1),) * 3:
                self.assertFails(InvalidOperation, plan_with, TRI, value)

    def test_bills_of_plans_that_are_not_lean(self):
        self.assertEqual(plan_with(TRI, ((1, 1),) * 3), flat_plan(TRI))
        self.assertSame(str(plan_with(TRI, ((0, 1), (1, 1), (1, 1)))), "(r (s t))")

    def test_examples(self):
        told = [str(least_degree(TRI)), str(least_degree(STAR)), str(least_plan(DEEP)), str(least_for(TRI, "r")),
                str(least_for(PATH.with_groups(("a", "d")), "s"))]
        self.assertSame(told, ["1", "0", "(((r u) s) t)", "0", "2"])
        told = [bill(PLAN), front(TRI), is_lean(TRI, ((1, 1), (1, 1), (1, 1))), len(list(each_least_plan(TRI)))]
        self.assertSame(told, [((1, 1), (1, 1), (0, 1)), (((0, 1), (1, 1), (1, 1)), ((1, 1), (0, 1), (1, 1)), ((1, 1), (1, 1), (0, 1))), False, 4])

    def test_open_columns_price_the_degree(self):
        for view, table in places_of_plan(PLAN):
            self.assertIs(bool(degree(PLAN, view, table)), bool(open_by_force(PLAN, view, table)))
        self.assertSame(str(plan_degree(PLAN)), "1")


class Errors(Strict, unittest.TestCase):
    def test_questions(self):
        for value in kinds_but(Question):
            for call in (least_degree, least_plan, front, lambda one: list(each_least_plan(one)), lambda one: is_least_plan(one, PLAN),
                         lambda one: is_lean(one, None), lambda one: plan_with(one, None), lambda one: least_for(one, "q"),
                         lambda one: plan_for(one, None)):
                self.assertFails(InvalidQuestion, call, value)

    def test_tables(self):
        wrong = [(0, None, InvalidQuestion), (0, PLAN, InvalidQuestion), (1, "q", UnknownName), (1, None, UnknownName)]
        for call in (least_for, plan_for):
            self.assertFirst(call, [TRI, "r"], wrong)
            for value in [*all_kinds(), "q", ("r",)]:
                self.assertKeeps(UnknownName, "word", value, call, TRI, value)

    def test_plans(self):
        for value in kinds_but(Plan):
            self.assertFails(InvalidPlan, bill, value)

    def test_bills(self):
        wrong = [(0, None, InvalidQuestion), (0, THREE, InvalidQuestion), (1, None, InvalidOperation), (1, (), InvalidOperation)]
        self.assertFirst(plan_with, [TRI, bill(PLAN)], wrong)
