"""Stage 5: all plans for a question."""

import unittest

from tests.force import plans_by_force
from tests.samples import LONGEST, PLAN, TRI, Strict, kinds_but
from touchrows.base.questions import Question
from touchrows.errors import InvalidNumber, InvalidPlan, InvalidQuestion
from touchrows.plan.plans import Plan, flat_plan
from touchrows.plan.shapes import count_plans, each_plan, number_of, plan_at

COUNTS = {1: 1, 2: 1, 3: 4, 4: 26, 5: 236, 6: 2752}
NAMES = ("rs", "r", "ra", "s", "q", "sa")


def question_of(many):
    return Question({name: ("a", "b") for name in NAMES[:many]}, ("b",))


class Shapes(Strict, unittest.TestCase):
    def test_counts(self):
        for many, count in COUNTS.items():
            question = question_of(many)
            self.assertSame(count_plans(question), count)
            plans = list(each_plan(question))
            views = [plan.views for plan in plans]
            self.assertEqual((len(plans), len(set(views))), (count, count))
            self.assertSame(views, sorted(views))
            self.assertTrue(all(type(plan) is Plan and plan.question == question for plan in plans))

    def test_all_sets_of_views(self):
        for many in range(1, 6):
            question = question_of(many)
            self.assertSame([plan.views for plan in each_plan(question)], plans_by_force(question))

    def test_numbers(self):
        for many in range(1, 5):
            question = question_of(many)
            for number, plan in enumerate(each_plan(question)):
                self.assertEqual(plan_at(question, number), plan)
                self.assertSame(number_of(plan), number)

    def test_numbers_of_many_tables(self):
        for many in (5, 6):
            question = question_of(many)
            plans = list(each_plan(question))
            for number in range(0, len(plans), len(plans) // 19):
                self.assertEqual(plan_at(question, number), plans[number])
                self.assertSame(number_of(plans[number]), number)
            self.assertSame(number_of(flat_plan(question)), len(plans) - 1)
            self.assertEqual(plan_at(question, len(plans) - 1), flat_plan(question))

    def test_the_plans_are_for_the_question(self):
        plan = plan_at(TRI, 0)
        self.assertEqual(plan, PLAN)
        self.assertEqual(plan.question, TRI)

    def test_wrong_numbers(self):
        for many, count in COUNTS.items():
            for value in [count, count + 1, -1, -count, LONGEST, LONGEST + 1, -LONGEST, 10 ** 99]:
                self.assertKeeps(InvalidNumber, "value", value, plan_at, question_of(many), value)
        for value in kinds_but(int):
            self.assertKeeps(InvalidNumber, "value", value, plan_at, TRI, value)

    def test_no_questions(self):
        for value in kinds_but(Question):
            self.assertFails(InvalidQuestion, count_plans, value)
            self.assertFails(InvalidQuestion, list, each_plan(value))
            self.assertFails(InvalidQuestion, plan_at, value, 0)
            self.assertFails(InvalidQuestion, plan_at, value, None)

    def test_no_plans(self):
        for value in [*kinds_but(Plan), PLAN.views, PLAN.text]:
            self.assertFails(InvalidPlan, number_of, value)

    def test_a_generator(self):
        told = each_plan(TRI)
        self.assertIs(iter(told), told)
        self.assertEqual([next(told).text for _ in range(4)], ["((r s) t)", "((r t) s)", "(r (s t))", "(r s t)"])
        self.assertIsNone(next(told, None))
        self.assertFails(InvalidQuestion, next, each_plan(None))

    def test_example(self):
        told = [
            count_plans(TRI), str(plan_at(TRI, 1)), list(each_plan(TRI))[3].text, number_of(PLAN),
            PLAN.without_view(("r", "s")) == flat_plan(TRI),
        ]
        self.assertSame(told, [4, "((r t) s)", "(r s t)", 0, True])
