"""Stage 8 and [8.1]: rooms, and the degrees of whole plans."""

import math
import unittest

from tests.force import (
    amounts, contents_by_force, covers_by_force, drawn_plan, drawn_question, drawn_store, drawn_weights, fills_by_force, fraction,
    many, price_by_force,
)
from tests.samples import LONGEST, PATH, PLAN, STAR, TRI, Strict, all_kinds, kinds_but
from tests.test_weights import NO_WEIGHTS
from touchrows.base.questions import Question
from touchrows.base.ratios import Ratio
from touchrows.data.rows import all_rows
from touchrows.data.stores import Store
from touchrows.errors import InvalidPlan, InvalidView, UnknownName
from touchrows.plan.plans import Plan, flat_plan
from touchrows.plan.shapes import each_plan
from touchrows.weigh.rooms import (
    degrees, is_room_covering, is_room_filling, plan_degree, plan_room, room, room_covering, room_filling, table_degree,
)
from touchrows.weigh.weights import degree

ALL = flat_plan(TRI.with_groups(("a", "b", "c")))
HALVES = (("a", (1, 2)), ("b", (1, 2)), ("c", (1, 2)))


def drawn_plans(times, seed, most=4):
    for draw in many(times, seed):
        question = drawn_question(draw, draw.randint(1, most), columns=draw.randint(1, 8), sizes=draw.random() < 0.7)
        for plan in each_plan(question):
            yield draw, plan


class Told(Strict, unittest.TestCase):
    def test_drawn_plans(self):
        for _, plan in drawn_plans(60, "rooms"):
            question = plan.question
            for view in plan.views:
                cover, fill = room_covering(plan, view), room_filling(plan, view)
                told = fraction(room(plan, view))
                self.assertTrue(covers_by_force(question, view, plan.kept(view), cover))
                self.assertTrue(fills_by_force(question, view, plan.kept(view), fill))
                self.assertEqual([price_by_force(question, cover), sum(amounts(fill).values())], [told, told])
                self.assertTrue(all(weight <= 1 for weight in amounts(cover).values()))
                self.assertLessEqual(math.lcm(*[pair[1] for _, pair in cover]), 24)
                self.assertTrue(all(max(pair) < 10 ** 50 for _, pair in (*cover, *fill)))
                self.assertIs(is_room_covering(plan, view, cover), True)
                self.assertIs(is_room_filling(plan, view, fill), True)

    def test_many_tables(self):
        for draw in many(20, "six rooms"):
            plan = drawn_plan(draw, drawn_question(draw, 6, columns=8, sizes=True))
            for view in plan.views:
                cover, fill = room_covering(plan, view), room_filling(plan, view)
                self.assertTrue(covers_by_force(plan.question, view, plan.kept(view), cover))
                self.assertTrue(fills_by_force(plan.question, view, plan.kept(view), fill))
                self.assertEqual(price_by_force(plan.question, cover), sum(amounts(fill).values()))
                self.assertTrue(all(weight <= 1 for weight in amounts(cover).values()))
                self.assertLessEqual(math.lcm(*[pair[1] for _, pair in cover]), 24)

    def test_contents_have_at_most_so_many_rows(self):
        for draw in many(60, "contents"):
            plan = drawn_plan(draw, drawn_question(draw, draw.randint(1, 5), columns=6))
            store = drawn_store(draw, plan.question, 5, 3)
            number = max([1, *map(len, store.rows.values())])
            for view in plan.views:
                told = room(plan, view)
                self.assertLessEqual(len(contents_by_force(plan, view, store.rows)) ** told.bottom, number ** told.top)

    def test_and_can_have_so_many(self):
        for draw in many(40, "full rooms"):
            question = drawn_question(draw, draw.randint(1, 4), columns=4)
            question = Question(question.tables, question.groups, sizes={
                name: draw.choice((Ratio(1, 1), Ratio(1, 2), Ratio(0, 1))) for name in question.names
            })
            plan = drawn_plan(draw, question)
            for view in plan.views:
                fill = room_filling(plan, view)
                ratios = [weight for weight in amounts(fill).values()] + [fraction(size) for size in question.sizes.values()]
                common = math.lcm(*[ratio.denominator for ratio in ratios])
                counts = {name: int(2 ** (weight * common)) for name, weight in amounts(fill).items()}
                if max([1, *counts.values()]) > 16:
                    continue
                store = Store(question, {name: all_rows(question.tables[name], counts) for name in view})
                self.assertIs(store.fits(2 ** common), True)
                wanted = 2 ** int(common * fraction(room(plan, view)))
                self.assertEqual(len(contents_by_force(plan, view, store.rows)), wanted)


class Judges(Strict, unittest.TestCase):
    def test_drawn_weights(self):
        seen = set()
        for draw, plan in drawn_plans(30, "room judges"):
            question = plan.question
            for view in plan.views:
                least = fraction(room(plan, view))
                for _ in range(6):
                    value = drawn_weights(draw, view)
                    covers = covers_by_force(question, view, plan.kept(view), value)
                    best = covers and price_by_force(question, value) == least
                    self.assertIs(is_room_covering(plan, view, value), best)
                    value = drawn_weights(draw, plan.kept(view))
                    fills = fills_by_force(question, view, plan.kept(view), value)
                    greatest = fills and sum(amounts(value).values()) == least
                    self.assertIs(is_room_filling(plan, view, value), greatest)
                    if plan.kept(view):
                        seen |= {("covers", covers, best), ("fills", fills, greatest)}
        self.assertEqual(len(seen), 6)

    def test_known_ones(self):
        self.assertIs(is_room_covering(ALL, ALL.root, (("r", (1, 2)), ("s", (1, 2)), ("t", (1, 2)))), True)
        self.assertIs(is_room_covering(ALL, ALL.root, (("r", (1, 1)), ("s", (1, 1)))), False)
        self.assertIs(is_room_covering(ALL, ALL.root, (("r", (1, 2)), ("s", (1, 2)))), False)
        self.assertIs(is_room_filling(ALL, ALL.root, HALVES), True)
        self.assertIs(is_room_filling(ALL, ALL.root, (("a", (1, 1)),)), False)
        self.assertIs(is_room_filling(ALL, ALL.root, (("a", (1, 1)), ("b", (1, 2)))), False)
        self.assertIs(is_room_covering(PLAN, PLAN.root, ()), True)
        self.assertIs(is_room_covering(PLAN, PLAN.root, (("r", (1, 1)),)), False)
        self.assertIs(is_room_filling(PLAN, PLAN.root, (("a", (1, 9)),)), False)
        almost = (LONGEST - 1, LONGEST)
        for pair, right in ((almost, False), ((1, 1), True), ((LONGEST, LONGEST - 1), False)):
            self.assertIs(is_room_covering(PLAN, ("t",), (("t", pair),)), right)
            self.assertIs(is_room_filling(PLAN, ("t",), (("a", pair),)), right)

    def test_other_values(self):
        for value in [value for value in (*NO_WEIGHTS, *all_kinds()) if value != ()]:
            for judge in (is_room_covering, is_room_filling):
                self.assertIs(judge(ALL, ALL.root, value), False)
                self.assertIs(judge(PLAN, PLAN.root, value), False)
        for value in ((("a", (1, 1)),), (("q", (1, 1)),), (("t", (1, 1)), ("u", (1, 1)))):
            self.assertIs(is_room_covering(PLAN, ("t",), value), False)
        for value in ((("b", (1, 1)),), (("t", (1, 1)),), (("a", (1, 1)), ("b", (1, 9)))):
            self.assertIs(is_room_filling(PLAN, ("t",), value), False)


class Plans(Strict, unittest.TestCase):
    def test_greatest_ones(self):
        for draw in many(60, "greatest"):
            plan = drawn_plan(draw, drawn_question(draw, draw.randint(1, 5), columns=6, sizes=True))
            told = {
                table: max(fraction(degree(plan, view, table)) for view in plan.path(table)) for table in plan.question.names
            }
            self.assertEqual({table: fraction(one) for table, one in degrees(plan).items()}, told)
            self.assertSame(list(degrees(plan)), list(plan.question.names))
            for table in told:
                self.assertEqual(fraction(table_degree(plan, table)), told[table])
            self.assertEqual(fraction(plan_degree(plan)), max(told.values()))
            self.assertEqual(fraction(plan_room(plan)), max(fraction(room(plan, view)) for view in plan.views))

    def test_one_table(self):
        plan = flat_plan(Question({"r": ("a", "b")}, ("a",), sizes={"r": Ratio(3, 2)}))
        self.assertSame([str(room(plan, ("r",))), str(plan_room(plan)), str(plan_degree(plan))], ["3/2", "3/2", "0"])
        bare = flat_plan(Question({"r": ("a", "b")}, ()))
        self.assertSame([str(plan_room(bare)), room_covering(bare, ("r",)), room_filling(bare, ("r",))], ["0", (), ()])

    def test_known_ones(self):
        self.assertSame([str(room(ALL, ALL.root)), room_covering(ALL, ALL.root)], [
            "3/2", (("r", (1, 2)), ("s", (1, 2)), ("t", (1, 2)))])
        way = Plan.of_text(PATH.with_groups(("a", "d")), "((r s) t)")
        told = {table: str(one) for table, one in degrees(way).items()}
        self.assertSame([told, str(plan_degree(way)), str(plan_room(way))], [{"r": "1", "s": "2", "t": "1"}, "2", "2"])
        self.assertSame(str(plan_degree(flat_plan(PATH))), "1")

    def test_examples(self):
        told = [
            str(room(PLAN, ("r", "s"))), str(plan_room(PLAN)), str(degrees(PLAN)["r"]), str(degrees(PLAN)["t"]),
            str(plan_degree(flat_plan(TRI))),
        ]
        self.assertSame(told, ["2", "2", "1", "0", "1"])
        told = [
            room_covering(PLAN, ("r", "s")), str(room(PLAN, PLAN.root)), room_covering(PLAN, ("t",)),
            str(plan_degree(flat_plan(STAR))),
        ]
        self.assertSame(told, [(("r", (1, 1)), ("s", (1, 1))), "0", (("t", (1, 1)),), "0"])


class Errors(Strict, unittest.TestCase):
    def test_views(self):
        wrong = [(0, None, InvalidPlan), (0, TRI, InvalidPlan), (1, ("r", "t"), InvalidView), (1, None, InvalidView),
                 (1, "r", InvalidView)]
        for call in (room, room_covering, room_filling):
            self.assertFirst(call, [PLAN, ("r", "s")], wrong)
            for value in kinds_but(Plan):
                self.assertFails(InvalidPlan, call, value, ("r",))
            for value in all_kinds():
                self.assertFails(InvalidView, call, PLAN, value)
        for call in (is_room_covering, is_room_filling):
            for value in (None, (), (("r", (1, 1)),)):
                self.assertFirst(call, [PLAN, ("r", "s"), value], wrong)

    def test_tables(self):
        self.assertFirst(table_degree, [PLAN, "r"], [(0, None, InvalidPlan), (1, "q", UnknownName), (1, None, UnknownName)])
        for value in [*all_kinds(), ("r",), ["r"]]:
            self.assertKeeps(UnknownName, "word", value, table_degree, PLAN, value)

    def test_plans(self):
        for value in kinds_but(Plan):
            for call in (degrees, plan_degree, plan_room):
                self.assertFails(InvalidPlan, call, value)
            self.assertFails(InvalidPlan, table_degree, value, "q")

    def test_degrees_are_told_anew(self):
        degrees(PLAN).clear()
        self.assertSame(len(degrees(PLAN)), 3)
