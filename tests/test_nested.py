"""Stage 11, [11.1], [11.2] and [0.20]: constant plans and crossings."""

import itertools
import unittest

from tests.force import all_plans, drawn_questions, open_by_force, places_of_plan
from tests.samples import LONGEST, PATH, PLAN, STAR, TRI, Strict, all_kinds, kinds_but
from touchrows.base.questions import Question
from touchrows.base.ratios import Ratio
from touchrows.best.nested import (
    constant_plan, crossing, crossing_degree, each_crossing, has_constant_plan, is_constant, is_crossing, is_crossing_degree,
)
from touchrows.errors import InvalidOperation, InvalidPlan, InvalidQuestion
from touchrows.plan.plans import Plan, flat_plan
from touchrows.plan.shapes import each_plan
from touchrows.weigh.rooms import degrees

DEEP = Question({"r": ("a", "b", "c"), "s": ("a", "b"), "t": ("a", "d"), "u": ("a", "b", "c")}, ("a",))
ONE = Question({"r": ("a", "b")}, ("b",))


def crossings_by_force(question):
    tables, told = question.tables, []
    for one, other in itertools.product(question.columns, repeat=2):
        for i, j, k in itertools.product(question.names, repeat=3):
            wanted = [one in tables[i], other in tables[i], one in tables[j], other in tables[j], one in tables[k], other in tables[k]]
            if one < other and wanted == [True, False, True, True, False, True]:
                told.append(("columns", (one, other), (i, j, k)))
    groups = [("group", column, table) for column in question.groups for table in question.names if column not in tables[table]]
    return sorted(told) + (sorted(groups) if len(question) > 1 else [])


def is_constant_by_force(plan):
    return not any(open_by_force(plan, view, table) for view, table in places_of_plan(plan))


def near_crossings(told):
    """Values that are a crossing but for a slip."""
    word, crossed, left = told
    yield from [(crossed, left), (word, crossed), (*told, None), [word, crossed, left], (word.upper(), crossed, left), ("", crossed, left)]
    yield from [(word, left, crossed), (word, [crossed], left), (word, crossed, [left]), (None, crossed, left), (word, None, left)]
    if word == "columns":
        yield from [(word, crossed[::-1], left), (word, crossed[:1], left), (word, (crossed[0], crossed[0]), left)]
        yield from [(word, crossed, left[:2]), (word, crossed, (left[1], left[0], left[2])), (word, crossed, left + left[:1])]
        yield from [(word, list(crossed), left), (word, crossed, list(left)), ("group", crossed, left), ("group", crossed[0], left[0])]
        yield (word, crossed, (left[0], left[1], "zz"))
    else:
        yield from [(word, (crossed,), left), (word, crossed, (left,)), ("columns", crossed, left), (word, "zz", left), (word, crossed, "zz")]


class Constant(Strict, unittest.TestCase):
    def test_just_without_a_crossing(self):
        seen = set()
        for draw, question in drawn_questions(250, "constant"):
            question = question.with_groups(tuple(column for column in question.groups if draw.random() < 0.4))
            plans = all_plans(question)
            there = [plan for plan in plans if is_constant_by_force(plan)]
            crossed = crossings_by_force(question)
            self.assertIs(bool(there), not crossed)
            self.assertIs(has_constant_plan(question), bool(there))
            told = constant_plan(question)
            if there:
                self.assertIs(type(told), Plan)
                self.assertEqual(told.question, question)
                self.assertTrue(is_constant_by_force(told))
                self.assertIs(is_constant(told), True)
                self.assertIsNone(crossing(question))
            else:
                self.assertIsNone(told)
                self.assertIn(crossing(question), crossed)
            for plan in plans:
                self.assertIs(is_constant(plan), plan in there)
            seen.add((bool(there), len(question)))
        self.assertGreaterEqual(len(seen), 7)

    def test_sizes_of_one(self):
        seen = set()
        for _, question in drawn_questions(80, "degrees 0"):
            for plan in each_plan(question):
                constant = not any(degrees(plan).values())
                self.assertIs(is_constant(plan), constant)
                seen.add(constant)
        self.assertEqual(seen, {True, False})

    def test_other_sizes_do_not_matter(self):
        none = TRI.with_size("r", Ratio(0, 1)).with_size("s", Ratio(0, 1)).with_size("t", Ratio(0, 1))
        self.assertSame([has_constant_plan(none), constant_plan(none)], [False, None])
        for _, question in drawn_questions(60, "other sizes", sizes=True):
            same = Question(question.tables, question.groups)
            self.assertIs(has_constant_plan(question), has_constant_plan(same))
            self.assertSame(list(each_crossing(question)), list(each_crossing(same)))
            for plan in each_plan(question):
                self.assertIs(is_constant(plan), is_constant(plan.over(same)))

    def test_many_tables(self):
        seen = set()
        for _, question in drawn_questions(80, "six tables", most=6, columns=3):
            bare = question.with_groups(())
            told = constant_plan(bare)
            self.assertIs(told is None, bool(crossings_by_force(bare)))
            self.assertTrue(told is None or is_constant_by_force(told))
            seen.add((told is None, len(question)))
        self.assertLessEqual({(True, 6), (False, 6), (True, 5), (False, 5)}, seen)

    def test_one_table(self):
        self.assertSame([has_constant_plan(ONE), is_constant(flat_plan(ONE)), crossing(ONE), list(each_crossing(ONE))],
                        [True, True, None, []])
        self.assertEqual(constant_plan(ONE), flat_plan(ONE))
        self.assertIs(is_crossing(ONE, ("group", "a", "r")), False)

    def test_great_laminar_question(self):
        deep = Question({"p": ("a", "b", "c", "d"), "q": ("a", "b", "c"), "r": ("a", "b", "c", "e"), "s": ("a", "b"), "t": ("a", "f"),
                         "u": ("a", "f", "g")}, ("a",))
        self.assertSame(str(constant_plan(deep)), "(((p q r) s) (t u))")


class Crossings(Strict, unittest.TestCase):
    def test_by_force(self):
        seen = set()
        for _, question in drawn_questions(150, "crossings", most=5):
            wanted = crossings_by_force(question)
            told = list(each_crossing(question))
            self.assertSame(told, wanted)
            self.assertEqual(told, sorted(set(told)))
            self.assertIn(crossing(question), wanted or [None])
            for one in wanted:
                self.assertIs(is_crossing(question, one), True)
                for value in near_crossings(one):
                    self.assertIs(is_crossing(question, value), value in wanted)
            seen |= {one[0] for one in wanted}
        self.assertEqual(seen, {"columns", "group"})

    def test_values(self):
        for question in (TRI, STAR, PATH, DEEP, STAR.with_groups(("b",))):
            for value in [*all_kinds(), ("columns", ("a", "b"), ("r", "r", "r")), "crossing", ("group", "a", "r")]:
                self.assertIs(is_crossing(question, value), False)

    def test_known_ones(self):
        self.assertSame(list(each_crossing(TRI)), [
            ("columns", ("a", "b"), ("t", "r", "s")), ("columns", ("a", "c"), ("r", "t", "s")), ("columns", ("b", "c"), ("r", "s", "t"))])
        self.assertSame(list(each_crossing(STAR)), [])

    def test_seen_in_every_plan(self):
        seen = set()
        for _, question in drawn_questions(60, "seen"):
            for told in crossings_by_force(question):
                columns = told[1] if told[0] == "columns" else (told[1],)
                tables = (told[2][0], told[2][2]) if told[0] == "columns" else (told[2],)
                for plan in all_plans(question):
                    value = crossing_degree(plan, told)
                    right = [
                        (view, table) for view, table in places_of_plan(plan)
                        if table in tables and set(open_by_force(plan, view, table)) & set(columns)
                    ]
                    self.assertIn(value, right)
                    self.assertIs(type(value), tuple)
                    for place in places_of_plan(plan):
                        self.assertIs(is_crossing_degree(plan, told, place), place in right)
                    seen.add(told[0])
        self.assertEqual(seen, {"columns", "group"})

    def test_judge_of_other_values(self):
        told = ("columns", ("a", "b"), ("t", "r", "s"))
        right = crossing_degree(PLAN, told)
        for value in [*all_kinds(), right[:1], list(right), (list(right[0]), right[1]), (right[1], right[0]), (*right, None),
                      (("r", "t"), "t"), (right[0], "zz"), (right[0], None), (right[0][::-1], right[1]), (right[0], LONGEST)]:
            self.assertIs(is_crossing_degree(PLAN, told, value), False)
        self.assertIs(is_crossing_degree(PLAN, told, right), True)
        self.assertIs(is_crossing_degree(PLAN, told, (("r", "s"), "r")), False)

    def test_examples(self):
        told = [is_constant(flat_plan(STAR)), has_constant_plan(TRI), crossing(PATH), is_crossing(PATH, ("columns", ("b", "c"), ("r", "s", "t")))]
        self.assertSame(told, [True, False, ("columns", ("b", "c"), ("r", "s", "t")), True])
        told = [str(constant_plan(DEEP)), is_constant(flat_plan(DEEP)), list(each_crossing(STAR.with_groups(("b",)))), len(list(each_crossing(TRI)))]
        self.assertSame(told, ["(((r u) s) t)", False, [("group", "b", "s"), ("group", "b", "u")], 3])


class Errors(Strict, unittest.TestCase):
    def test_questions(self):
        for value in kinds_but(Question):
            for call in (constant_plan, has_constant_plan, crossing, lambda one: is_crossing(one, None), lambda one: list(each_crossing(one))):
                self.assertFails(InvalidQuestion, call, value)
            self.assertFails(InvalidQuestion, is_crossing, value, ("columns", ("b", "c"), ("r", "s", "t")))

    def test_generators_raise_late(self):
        told = each_crossing(None)
        self.assertFails(InvalidQuestion, next, told)

    def test_plans(self):
        for value in kinds_but(Plan):
            self.assertFails(InvalidPlan, is_constant, value)
        told = ("columns", ("b", "c"), ("r", "s", "t"))
        wrong = [(0, None, InvalidPlan), (0, TRI, InvalidPlan), (1, None, InvalidOperation), (1, ("group", "a", "r"), InvalidOperation)]
        self.assertFirst(crossing_degree, [PLAN, told], wrong)
        for value in (None, (("r", "s"), "r")):
            self.assertFirst(is_crossing_degree, [PLAN, told, value], wrong)
        for value in [*all_kinds(), *near_crossings(told)]:
            self.assertFails(InvalidOperation, crossing_degree, PLAN, value)
            self.assertFails(InvalidOperation, is_crossing_degree, PLAN, value, None)
            self.assertFails(InvalidOperation, crossing_degree, flat_plan(STAR), told)
