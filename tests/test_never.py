"""Stage 10, [0.19] and [10.1]: never more."""

import itertools
import unittest

from tests.force import drawn_plan, drawn_question, drawn_row, drawn_store, many, places_of_plan, readings_by_force, touched_by_force
from tests.samples import LONGEST, PATH, PLAN, STAR, THREE, TRI, Strict, all_kinds, kinds_but
from touchrows.base.questions import Question
from touchrows.base.ratios import Ratio
from touchrows.data.stores import Store
from touchrows.errors import InvalidPlan, InvalidRow, InvalidStore, InvalidView, TooMany, UnknownName
from touchrows.keep.keepers import Keeper
from touchrows.plan.plans import Plan, flat_plan
from touchrows.plan.shapes import each_plan
from touchrows.weigh.never import (
    dearer_store, is_dearer, is_never_more, is_no_dearer, is_parting, parting_store, peak_in, touched_in,
)

FLAT = flat_plan(TRI)
RS = ("r", "s")
APART = Question({"r": ("a",), "s": ("b",), "t": ("c",)}, ("a", "b"))


def column(rows):
    return tuple((number,) for number in range(rows))


def pairs_of_plans(times, seed, most=4):
    """Pairs of plans of drawn questions, with a table."""
    for draw in many(times, seed):
        question = drawn_question(draw, draw.randint(1, most), columns=draw.randint(1, 6), sizes=draw.random() < 0.3)
        yield draw, drawn_plan(draw, question), drawn_plan(draw, question), draw.choice(question.names)


def changes(draw, question, table, times=6):
    """Drawn stores with a row of a table."""
    for _ in range(times):
        yield drawn_store(draw, question, 5, draw.choice((2, 3))), drawn_row(draw, question, table, 2)


class Touched(Strict, unittest.TestCase):
    def test_by_force(self):
        for draw, plan, _, _ in pairs_of_plans(60, "touched", 5):
            for view, table in places_of_plan(plan):
                for store, row in changes(draw, plan.question, table, 2):
                    wanted = len(touched_by_force(plan, view, table, row, store.rows))
                    self.assertSame(touched_in(store, plan, view, table, row), wanted)

    def test_as_a_keeper_does(self):
        for draw, plan, _, table in pairs_of_plans(60, "kept", 5):
            for store, row in changes(draw, plan.question, table, 3):
                numbers = Keeper(plan, store)(table, row)
                told = tuple(touched_in(store, plan, view, table, row) for view in plan.path(table))
                self.assertSame(told, numbers)
                self.assertSame(peak_in(store, plan, table, row), max(numbers))

    def test_limits(self):
        plan = flat_plan(APART)
        store = Store(APART, {"r": column(2000), "s": column(50), "t": column(2000)})
        self.assertSame(touched_in(store, plan, plan.root, "t", (9999,)), 100000)
        self.assertSame(peak_in(store, plan, "t", (0,)), 100000)
        more = store + ("s", (50,))
        for call in (
            lambda: touched_in(more, plan, plan.root, "t", (0,)), lambda: peak_in(more, plan, "t", (0,)),
            lambda: touched_in(more, plan, plan.root, "s", (0,)), lambda: touched_in(more, plan, plan.root, "s", (9999,)),
        ):
            self.assertKeeps(TooMany, "limit", 100000, call)
        self.assertSame(touched_in(more, plan, ("t",), "t", (0,)), 1)
        # Readings count, not the rows that they come to: here those of t all come to one.
        bare = flat_plan(APART.with_groups(("a",)))
        store = Store(bare.question, {"r": column(1), "s": column(1), "t": column(2000)})
        self.assertSame(touched_in(store, bare, bare.root, "r", (0,)), 1)

    def test_one_more(self):
        # 1999 * 50 readings with the value 0 at z, and 1 * 50 with 1, to which one more comes.
        question = Question({"r": ("a", "z"), "s": ("b", "z"), "t": ("c",)}, ("b",))
        rows = {"r": tuple((one, 0) for one in range(1999)), "s": tuple((one, 0) for one in range(50))}
        rows["r"] += ((7, 1),)
        rows["s"] += tuple((one, 1) for one in range(50))
        store, plan = Store(question, rows), flat_plan(question)
        self.assertSame(touched_in(store, plan, plan.root, "t", (0,)), 100)
        self.assertSame(peak_in(store, plan, "t", (0,)), 100)
        more = store + ("s", (50, 1))
        self.assertKeeps(TooMany, "limit", 100000, touched_in, more, plan, plan.root, "t", (0,))
        self.assertKeeps(TooMany, "limit", 100000, peak_in, more, plan, "t", (0,))
        self.assertSame(touched_in(more, plan, plan.root, "r", (7, 1)), 0)

    def test_peaks(self):
        self.assertSame([peak_in(THREE, PLAN, "r", (1, 2)), peak_in(Store(TRI, {}), PLAN, "r", (1, 2))], [1, 1])
        store = Store(TRI, {"s": tuple((2, at) for at in range(7))})
        self.assertSame([peak_in(store, PLAN, "r", (1, 2)), peak_in(store, FLAT, "r", (1, 2))], [7, 1])


class Views(Strict, unittest.TestCase):
    def test_both_ways(self):
        seen = set()
        for draw, plan, other, table in pairs_of_plans(120, "never"):
            for view, above in itertools.product(plan.path(table), other.path(table)):
                never = set(plan.open_columns(view, table)) <= set(other.met(above)) and set(above) <= set(view)
                self.assertIs(is_never_more(plan, view, other, above, table), never)
                told = parting_store(plan, view, other, above, table)
                if never:
                    self.assertIsNone(told)
                    for store, row in changes(draw, plan.question, table, 3):
                        here = touched_by_force(plan, view, table, row, store.rows)
                        there = touched_by_force(other, above, table, row, store.rows)
                        self.assertLessEqual(len(here), len(there))
                        self.assertIs(is_parting(plan, view, other, above, table, (store, row)), False)
                else:
                    self.assertIs(type(told), tuple)
                    store, row = told
                    self.assertLessEqual(max(map(len, store.rows.values())), 2)
                    self.assertEqual(store.question, plan.question)
                    here = touched_by_force(plan, view, table, row, store.rows)
                    there = touched_by_force(other, above, table, row, store.rows)
                    self.assertGreater(len(here), len(there))
                    self.assertIs(is_parting(plan, view, other, above, table, told), True)
                seen.add((never, len(view) > 1, len(above) > 1))
        self.assertEqual(len(seen), 6)

    def test_judge_of_drawn_stores(self):
        seen = 0
        for draw, plan, other, table in pairs_of_plans(120, "parting"):
            for view, above in itertools.product(plan.path(table), other.path(table)):
                for store, row in changes(draw, plan.question, table, 4):
                    here = len(touched_by_force(plan, view, table, row, store.rows))
                    there = len(touched_by_force(other, above, table, row, store.rows))
                    self.assertIs(is_parting(plan, view, other, above, table, (store, row)), here > there)
                    seen += here > there > 0
        self.assertGreater(seen, 10)

    def test_one_plan_for_both(self):
        for view, table in places_of_plan(PLAN):
            self.assertIs(is_never_more(PLAN, view, PLAN, view, table), True)
            self.assertIsNone(parting_store(PLAN, view, PLAN, view, table))
        self.assertIs(is_never_more(PLAN, RS, PLAN, ("r",), "r"), False)
        self.assertIs(is_never_more(PLAN, ("r",), PLAN, RS, "r"), False)

    def test_great_stores_part_too(self):
        store = Store(TRI, {"s": tuple((2, at) for at in range(900)), "t": ((1, 5),), "r": ((1, 2), (7, 7))})
        for row in ((1, 2), (8, 2)):
            self.assertIs(is_parting(PLAN, RS, FLAT, FLAT.root, "r", (store, row)), True)
        self.assertIs(is_parting(PLAN, RS, FLAT, FLAT.root, "r", (store, (1, 3))), False)
        self.assertIs(is_parting(FLAT, FLAT.root, PLAN, RS, "r", (store, (1, 2))), False)

    def test_other_values(self):
        store, row = parting_store(PLAN, RS, FLAT, FLAT.root, "r")
        for value in [
            *all_kinds(), (store,), (store, row, None), [store, row], (row, store), (store.rows, row), (store, None), (store, (0,)),
            (store, [0, 0]), (store, (0, True)), (None, row), (Store(STAR, {}), row), (store, (0, LONGEST + 1)), (TRI, row),
            (Store(TRI.with_groups(("a",)), store.rows), row), (Store(TRI.with_size("r", Ratio(1, 2)), store.rows), row), store,
        ]:
            self.assertIs(is_parting(PLAN, RS, FLAT, FLAT.root, "r", value), False)
            self.assertIs(is_dearer(PLAN, FLAT, "r", value), False)
        self.assertIs(is_parting(PLAN, RS, FLAT, FLAT.root, "r", (store, row)), True)

    def test_too_many(self):
        plan, other = flat_plan(APART), Plan(APART, (("r", "t"),))
        store = Store(APART, {"r": column(2000), "s": column(51)})
        for call in (
            lambda: is_parting(plan, plan.root, other, ("t",), "t", (store, (0,))),
            lambda: is_parting(other, ("t",), plan, plan.root, "t", (store, (0,))),
            lambda: is_dearer(plan, other, "t", (store, (0,))), lambda: is_dearer(other, plan, "t", (store, (0,))),
        ):
            self.assertKeeps(TooMany, "limit", 100000, call)
        self.assertIs(is_parting(other, ("r", "t"), plan, ("t",), "t", (store, (0,))), True)
        self.assertIs(is_parting(plan, plan.root, other, ("r", "t"), "t", (store - ("s", (50,)), (0,))), True)

    def test_examples(self):
        told = [
            is_never_more(FLAT, FLAT.root, PLAN, RS, "r"), is_never_more(PLAN, RS, FLAT, FLAT.root, "r"),
            is_no_dearer(FLAT, PLAN, "r"),
        ]
        self.assertSame(told, [True, False, True])
        store, row = parting_store(PLAN, RS, FLAT, FLAT.root, "r")
        told = [
            touched_in(store, PLAN, RS, "r", row) > touched_in(store, FLAT, FLAT.root, "r", row), is_no_dearer(PLAN, FLAT, "t"),
            dearer_store(PLAN, FLAT, "t"),
        ]
        self.assertSame(told, [True, True, None])


def peak_by_force(plan, table, row, rows):
    return max(len(touched_by_force(plan, view, table, row, rows)) for view in plan.path(table))


class Peaks(Strict, unittest.TestCase):
    def check_dearer(self, plan, other, table, told):
        store, row = told
        self.assertLessEqual(max(map(len, store.rows.values())), 64)
        for view in {*plan.views, *other.views}:
            self.assertLessEqual(len(list(readings_by_force(plan.question, store.rows, view))), 100000)
        self.assertGreater(peak_by_force(plan, table, row, store.rows), peak_by_force(other, table, row, store.rows))
        self.assertIs(is_dearer(plan, other, table, told), True)
        self.assertIs(is_dearer(other, plan, table, told), False)

    def test_both_ways(self):
        seen = set()
        for draw, plan, other, table in pairs_of_plans(250, "dearer"):
            paths = itertools.product(plan.path(table), [other.path(table)])
            no_dearer = all(
                any(is_never_more(plan, view, other, above, table) for above in path) for view, path in paths
            )
            self.assertIs(is_no_dearer(plan, other, table), no_dearer)
            told = dearer_store(plan, other, table)
            if no_dearer:
                self.assertIsNone(told)
                for store, row in changes(draw, plan.question, table):
                    here, there = (peak_by_force(one, table, row, store.rows) for one in (plan, other))
                    self.assertLessEqual(here, there)
                    self.assertIs(is_dearer(plan, other, table, (store, row)), False)
            else:
                self.check_dearer(plan, other, table, told)
            seen.add(no_dearer)
        self.assertEqual(seen, {True, False})

    def test_judge_of_drawn_stores(self):
        seen = 0
        for draw, plan, other, table in pairs_of_plans(150, "peaks"):
            for store, row in changes(draw, plan.question, table):
                here, there = (peak_by_force(one, table, row, store.rows) for one in (plan, other))
                self.assertIs(is_dearer(plan, other, table, (store, row)), here > there)
                seen += here > there
        self.assertGreater(seen, 2)

    def test_several_views_at_once(self):
        # Each view of the one plan is more than some, but not all, of the other plan, and none is never more.
        question = Question({"r": ("a", "b", "c"), "s": ("a", "d"), "t": ("b", "e"), "u": ("c", "f")}, ("d", "e", "f"))
        for plan, other in itertools.permutations(list(each_plan(question))[::5], 2):
            for table in ("r", "u"):
                told = dearer_store(plan, other, table)
                self.assertIs(told is None, is_no_dearer(plan, other, table))
                if told is not None:
                    self.check_dearer(plan, other, table, told)

    def test_as_many_rows_as_there_can_be(self):
        wide = Question({"p": tuple("abcdef"), "q": tuple("abcdef"), "r": ("g",), "s": ("g", "h")}, tuple("abcdef"))
        plans = (flat_plan(wide), Plan(wide, (("p", "r"),)), Plan(wide, (("p", "q"),)), Plan(wide, (("r", "s"),)))
        most = 0
        for plan, other, table in itertools.product(plans, plans, wide.names):
            told = dearer_store(plan, other, table)
            self.assertIs(told is None, is_no_dearer(plan, other, table))
            if told is not None:
                self.check_dearer(plan, other, table, told)
                most = max(most, *map(len, told[0].rows.values()))
        self.assertEqual(most, 64)


class Errors(Strict, unittest.TestCase):
    OTHER = flat_plan(TRI.with_groups(("a",)))
    WRONG_PLANS = (None, TRI, "((r s) t)")

    def test_touched_in(self):
        wrong = [(0, None, InvalidStore), (0, PLAN, InvalidStore), (1, None, InvalidPlan), (1, self.OTHER, InvalidPlan),
                 (1, flat_plan(STAR), InvalidPlan), (2, ("r", "t"), InvalidView), (2, None, InvalidView), (3, "t", UnknownName),
                 (3, None, UnknownName), (4, (1,), InvalidRow), (4, None, InvalidRow), (4, (1, True), InvalidRow)]
        self.assertFirst(touched_in, [THREE, PLAN, RS, "r", (1, 2)], wrong)
        for value in kinds_but(Store):
            self.assertFails(InvalidStore, touched_in, value, PLAN, RS, "r", (1, 2))
        for value in all_kinds():
            self.assertKeeps(UnknownName, "word", value, touched_in, THREE, PLAN, RS, value, (1, 2))
            if value != (1, 2):
                self.assertFails(InvalidRow, touched_in, THREE, PLAN, RS, "r", value)

    def test_peak_in(self):
        wrong = [(0, None, InvalidStore), (0, PLAN, InvalidStore), (1, None, InvalidPlan), (1, self.OTHER, InvalidPlan),
                 (2, "q", UnknownName), (2, None, UnknownName), (3, (1,), InvalidRow), (3, [1, 2], InvalidRow)]
        self.assertFirst(peak_in, [THREE, PLAN, "r", (1, 2)], wrong)
        for value in [*all_kinds(), ("r",)]:
            self.assertKeeps(UnknownName, "word", value, peak_in, THREE, PLAN, value, (1, 2))

    def test_views(self):
        wrong = [(0, None, InvalidPlan), (0, TRI, InvalidPlan), (1, ("r", "t"), InvalidView), (1, None, InvalidView),
                 (2, None, InvalidPlan), (2, self.OTHER, InvalidPlan), (2, flat_plan(STAR), InvalidPlan),
                 (3, RS, InvalidView), (3, None, InvalidView), (4, "q", UnknownName), (4, None, UnknownName),
                 (4, "t", UnknownName)]
        good = [PLAN, RS, FLAT, FLAT.root, "r"]
        for call in (is_never_more, parting_store):
            self.assertFirst(call, good, wrong)
        for value in (None, parting_store(*good)):
            self.assertFirst(is_parting, [*good, value], wrong)
        for call in (is_never_more, parting_store):
            self.assertKeeps(UnknownName, "word", "t", call, FLAT, FLAT.root, PLAN, RS, "t")
            self.assertKeeps(UnknownName, "word", "s", call, PLAN, ("r",), PLAN, RS, "s")
            for value in all_kinds():
                self.assertKeeps(UnknownName, "word", value, call, PLAN, RS, FLAT, FLAT.root, value)

    def test_plans(self):
        wrong = [(0, None, InvalidPlan), (0, TRI, InvalidPlan), (1, None, InvalidPlan), (1, self.OTHER, InvalidPlan),
                 (1, flat_plan(STAR), InvalidPlan), (2, "q", UnknownName), (2, None, UnknownName)]
        for call in (is_no_dearer, dearer_store):
            self.assertFirst(call, [PLAN, FLAT, "r"], wrong)
            for value in [*all_kinds(), ("r",)]:
                self.assertKeeps(UnknownName, "word", value, call, PLAN, FLAT, value)
        for value in (None, dearer_store(PLAN, FLAT, "r")):
            self.assertFirst(is_dearer, [PLAN, FLAT, "r", value], wrong)
