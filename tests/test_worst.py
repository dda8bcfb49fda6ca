"""Stage 9, [9.1], [9.2] and [0.18]: stores that touch most, and witnesses."""

import math
import unittest

from tests.force import (
    amounts, drawn_plan, drawn_question, drawn_row, drawn_store, drawn_weights, fills_by_force, fraction, many, places_of_plan,
    touched_by_force,
)
from tests.samples import LONGEST, PLAN, STAR, THREE, TRI, Strict, all_kinds, kinds_but
from tests.test_weights import HALVES, NO_WEIGHTS, WHOLE
from touchrows.base.questions import Question
from touchrows.base.ratios import Ratio
from touchrows.data.stores import Store
from touchrows.errors import InvalidNumber, InvalidPlan, InvalidView, InvalidWeights, TooMany, UnknownName
from touchrows.keep.keepers import Keeper
from touchrows.plan.plans import Plan, flat_plan
from touchrows.weigh.never import touched_in
from touchrows.weigh.weights import degree, filling, worth
from touchrows.weigh.worst import (
    MAX_GROWTH, is_witness, spread, witness, worst_row, worst_store, worst_touched,
)

RS = ("r", "s")
ONE = (("c", (1, 1)),)


def easy_question(draw, most=4):
    """A question whose sizes have small denominators, so that worst stores stay small."""
    question = drawn_question(draw, draw.randint(1, most), columns=5)
    sizes = (Ratio(1, 1), Ratio(1, 1), Ratio(1, 2), Ratio(3, 2), Ratio(0, 1))
    return Question(question.tables, question.groups, sizes={name: draw.choice(sizes) for name in question.names})


def spread_by_force(question, weights):
    ratios = [*amounts(weights).values(), *map(fraction, question.sizes.values())]
    return math.lcm(*[ratio.denominator for ratio in ratios])


def rows_by_force(question, view, table, weights, number):
    """The rows of the worst store."""
    common, told = spread_by_force(question, weights), amounts(weights)
    rows = {name: [()] for name in view if name != table}
    for name in rows:
        for column in question.tables[name]:
            values = number ** int(common * told.get(column, 0))
            rows[name] = [(*row, value) for row in rows[name] for value in range(values)]
    return {name: tuple(rows.get(name, ())) for name in question.names}


class Stores(Strict, unittest.TestCase):
    def test_drawn_fillings(self):
        seen = 0
        for draw in many(120, "worst"):
            plan = drawn_plan(draw, easy_question(draw))
            question = plan.question
            for view, table in places_of_plan(plan):
                columns, others = plan.open_columns(view, table), [name for name in view if name != table]
                for weights in (filling(plan, view, table), (), drawn_weights(draw, columns)):
                    if not fills_by_force(question, others, columns, weights):
                        self.assertFails(InvalidWeights, worst_store, plan, view, table, weights, 1)
                        continue
                    common = spread_by_force(question, weights)
                    self.assertSame(spread(plan, view, table, weights), common)
                    for number in (1, 2, 3):
                        wanted = number ** int(common * sum(amounts(weights).values()))
                        self.assertSame(worst_touched(plan, view, table, weights, number), wanted)
                        most = number ** int(common * max(
                            [0, *[sum(amounts(weights).get(column, 0) for column in question.tables[name]) for name in others]]))
                        if most > 2000:
                            self.assertKeeps(TooMany, "limit", 2000, worst_store, plan, view, table, weights, number)
                        elif wanted <= 300 and most <= 81:
                            store = worst_store(plan, view, table, weights, number)
                            self.assertSame(store.rows, rows_by_force(question, view, table, weights, number))
                            self.assertEqual(store.question, question)
                            self.assertIs(store.fits(number ** common), True)
                            row = worst_row(plan, table)
                            self.assertSame(touched_in(store, plan, view, table, row), wanted)
                            seen += wanted > 1
        self.assertGreater(seen, 50)

    def test_a_keeper_carries_it_out(self):
        for draw in many(40, "kept"):
            plan = drawn_plan(draw, easy_question(draw, 3))
            for view, table in places_of_plan(plan):
                weights = filling(plan, view, table)
                if worst_touched(plan, view, table, weights, 2) > 64:
                    continue
                keeper = Keeper(plan, worst_store(plan, view, table, weights, 2))
                numbers = dict(zip(plan.path(table), keeper.put(table, worst_row(plan, table))))
                self.assertEqual(numbers[view], worst_touched(plan, view, table, weights, 2))
                self.assertEqual(keeper.take(table, worst_row(plan, table)), tuple(numbers.values()))

    def test_known_ones(self):
        store = worst_store(PLAN, RS, "r", ONE, 3)
        self.assertSame(store.rows, {"r": (), "s": ((0, 0), (0, 1), (0, 2)), "t": ()})
        flat = flat_plan(STAR.with_groups(("b", "c")))
        value = (("b", (1, 1)), ("c", (1, 2)))
        self.assertSame(spread(flat, flat.root, "u", value), 2)
        store = worst_store(flat, flat.root, "u", value, 2)
        self.assertSame(store.rows, {"r": tuple((0, at) for at in range(4)), "s": ((0, 0), (0, 1)), "u": ()})
        self.assertSame(worst_touched(flat, flat.root, "u", value, 2), 8)

    def test_limits(self):
        self.assertSame(MAX_GROWTH, 1000)
        self.assertSame(len(worst_store(PLAN, RS, "r", ONE, 1000)), 1000)
        self.assertSame(worst_touched(PLAN, RS, "r", ONE, 1000), 1000)
        wide = Plan.of_text(TRI.with_size("s", Ratio(2, 1)), "((r s) t)")
        twice = (("c", (2, 1)),)
        self.assertSame(len(worst_store(wide, RS, "r", twice, 44)), 1936)
        self.assertKeeps(TooMany, "limit", 2000, worst_store, wide, RS, "r", twice, 45)
        self.assertKeeps(TooMany, "limit", 2000, witness, wide, RS, "r", twice, 45)
        self.assertSame(worst_touched(wide, RS, "r", twice, 45), 2025)
        self.assertSame(len(worst_store(WHOLE, WHOLE.root, "u", HALVES, 44)), 3 * 1936)
        self.assertKeeps(TooMany, "limit", 2000, worst_store, WHOLE, WHOLE.root, "u", HALVES, 45)
        eleven = Plan.of_text(TRI.with_size("s", Ratio(1, 11)), "((r s) t)")
        self.assertSame(len(worst_store(eleven, RS, "r", (("c", (1, 11)),), 1000)), 1000)

    def test_powers_of_2(self):
        for size, fits in ((9, True), (10, True), (11, False)):
            question = TRI.with_size("s", Ratio(9, 1)).with_size("t", Ratio(1, size))
            plan = Plan.of_text(question, "((r s) t)")
            weights = (("c", (1, 1)),)
            self.assertSame(spread(plan, RS, "r", weights), size)
            self.assertSame(worst_touched(plan, RS, "r", weights, 2), 2 ** size)
            if fits:
                self.assertSame(len(worst_store(plan, RS, "r", weights, 2)), 2 ** size)
            else:
                self.assertKeeps(TooMany, "limit", 2000, worst_store, plan, RS, "r", weights, 2)

    def test_weights_of_sixty_digits(self):
        weights = (("c", (LONGEST - 1, LONGEST)),)
        self.assertSame(spread(PLAN, RS, "r", weights), LONGEST)
        self.assertSame(worst_touched(PLAN, RS, "r", weights, 1), 1)
        self.assertSame(len(worst_store(PLAN, RS, "r", weights, 1)), 1)
        for number in (2, 1000):
            self.assertKeeps(TooMany, "limit", 2000, worst_store, PLAN, RS, "r", weights, number)

    def test_however_many(self):
        question = Question({"r": ("a", "b"), "s": ("a", "c"), "t": ("d",)}, ("b", "c"), sizes={"r": Ratio(9, 1), "s": Ratio(9, 1)})
        plan = flat_plan(question)
        weights = (("b", (9, 1)), ("c", (9, 1)))
        self.assertSame(worst_touched(plan, plan.root, "t", weights, 1000), 1000 ** 18)
        self.assertKeeps(TooMany, "limit", 2000, worst_store, plan, plan.root, "t", weights, 1000)

    def test_worst_rows(self):
        self.assertSame([worst_row(PLAN, "r"), worst_row(flat_plan(STAR), "u")], [(0, 0), (0,)])

    def test_examples(self):
        told = [spread(WHOLE, WHOLE.root, "u", HALVES), worst_touched(WHOLE, WHOLE.root, "u", HALVES, 10), worst_row(WHOLE, "u")]
        self.assertSame(told, [2, 1000, (0,)])
        number, store, row = witness(WHOLE, WHOLE.root, "u", HALVES, 2)
        told = [
            number, str(store), store.rows["r"], is_witness(WHOLE, WHOLE.root, "u", (number, store, row)),
            is_witness(WHOLE, WHOLE.root, "u", (5, store, row)),
        ]
        wanted = [4, "store with 12 rows in 4 tables", ((0, 0), (0, 1), (1, 0), (1, 1)), True, False]
        self.assertSame(told, wanted)


class Witnesses(Strict, unittest.TestCase):
    def test_drawn_ones(self):
        seen = 0
        for draw in many(60, "witnesses"):
            plan = drawn_plan(draw, easy_question(draw))
            for view, table in places_of_plan(plan):
                weights = filling(plan, view, table)
                for number in (1, 2):
                    if worst_touched(plan, view, table, weights, number) > 300 or number ** spread(plan, view, table, weights) > 64:
                        continue
                    told = witness(plan, view, table, weights, number)
                    wanted = (
                        number ** spread(plan, view, table, weights), worst_store(plan, view, table, weights, number),
                        worst_row(plan, table),
                    )
                    self.assertSame(told, wanted)
                    self.assertIs(is_witness(plan, view, table, told), True)
                    seen += number > 1 and bool(weights)
                if worth(weights):
                    self.assertFails(InvalidWeights, witness, plan, view, table, (), 1)
        self.assertGreater(seen, 20)

    def test_drawn_stores(self):
        seen = set()
        for draw in many(80, "judged"):
            plan = drawn_plan(draw, easy_question(draw, 3))
            store = drawn_store(draw, plan.question, 3, 2)
            for view, table in places_of_plan(plan):
                row = drawn_row(draw, plan.question, table, 2)
                touched = len(touched_by_force(plan, view, table, row, store.rows))
                told = degree(plan, view, table)
                for number in (1, 2, 3, 4, 9):
                    right = store.fits(number) and touched ** told.bottom == number ** told.top
                    self.assertIs(is_witness(plan, view, table, (number, store, row)), right)
                    seen.add((right, touched > 1))
        self.assertEqual(len(seen), 4)

    def test_puts_and_takes(self):
        number, store, row = witness(PLAN, RS, "r", ONE, 5)
        self.assertIs(is_witness(PLAN, RS, "r", (number, store, row)), True)
        self.assertIs(is_witness(PLAN, RS, "r", (number, store + ("r", row), row)), True)
        self.assertIs(is_witness(PLAN, RS, "r", (number, store + ("r", (7, 7)), row)), True)
        self.assertIs(is_witness(PLAN, RS, "r", (number, store, (9, 0))), True)
        self.assertIs(is_witness(PLAN, RS, "r", (number, store, (0, 9))), False)
        self.assertIs(is_witness(PLAN, RS, "r", (number, store - ("s", (0, 4)), row)), False)
        self.assertIs(is_witness(PLAN, RS, "r", (4, store - ("s", (0, 4)), row)), True)

    def test_stores_that_do_not_fit(self):
        number, store, row = witness(PLAN, RS, "r", ONE, 5)
        for other in range(6):
            store = store + ("t", (other, other))
            self.assertIs(is_witness(PLAN, RS, "r", (number, store, row)), other < 5)

    def test_degree_0(self):
        plan = PLAN
        self.assertIs(is_witness(plan, plan.root, "t", (LONGEST, Store(TRI, {}), (1, 5))), False)
        self.assertIs(is_witness(plan, plan.root, "t", (LONGEST, THREE, (1, 5))), True)
        self.assertIs(is_witness(plan, plan.root, "t", (1, THREE, (1, 5))), False)
        self.assertIs(is_witness(plan, ("t",), "t", (1, Store(TRI, {}), (1, 5))), True)

    def test_great_numbers(self):
        plan = Plan.of_text(TRI.with_size("s", Ratio(1, 19)), "((r s) t)")
        store = Store(plan.question, {"s": tuple((0, at) for at in range(1000))})
        self.assertIs(is_witness(plan, RS, "r", (1000 ** 19, store, (0, 0))), True)
        self.assertIs(is_witness(plan, RS, "r", (1000 ** 19 + 1, store, (0, 0))), False)
        self.assertIs(is_witness(plan, RS, "r", (999 ** 19, store, (0, 0))), False)
        self.assertIs(is_witness(plan, RS, "r", (LONGEST, Store(plan.question, {}), (0, 0))), False)
        longer = Plan.of_text(TRI.with_size("s", Ratio(1, 20)), "((r s) t)")
        store = Store(longer.question, {"s": tuple((0, at) for at in range(1000))})
        told = witness(longer, RS, "r", (("c", (1, 20)),), 1000)
        self.assertSame(told, (10 ** 60, store, (0, 0)))
        # Such a number has sixty-one digits, and a witness has at most sixty.
        self.assertIs(is_witness(longer, RS, "r", told), False)

    def test_strange_sizes_do_not_take_long(self):
        tables = {name: ("a", column) for name, column in zip("qrstu", "bcdef")}
        sizes = {name: Ratio(1, bottom) for name, bottom in zip("qrstu", (59, 58, 57, 55, 53))}
        plan = flat_plan(Question({**tables, "v": ("a",)}, ("b", "c", "d", "e", "f"), sizes=sizes))
        self.assertEqual(degree(plan, plan.root, "v").bottom, 59 * 58 * 57 * 55 * 53)
        store = Store(plan.question, {name: ((0, 0),) for name in "qrstu"})
        for number, right in ((1, True), (2, False), (LONGEST, False)):
            self.assertIs(is_witness(plan, plan.root, "v", (number, store, (0,))), right)
        more = store + ("q", (0, 1))
        self.assertIs(is_witness(plan, plan.root, "v", (LONGEST, more, (0,))), False)

    def test_too_many(self):
        plan = flat_plan(Question({"r": ("a",), "s": ("b",), "t": ("c",)}, ("a", "b")))
        column = tuple((at,) for at in range(2000))
        store = Store(plan.question, {"r": column, "s": column[:50], "t": column})
        value = (LONGEST, store, (0,))
        self.assertIs(is_witness(plan, plan.root, "t", value), False)
        more = Store(plan.question, {"r": column, "s": column[:51]})
        self.assertKeeps(TooMany, "limit", 100000, is_witness, plan, plan.root, "t", (LONGEST, more, (0,)))
        self.assertKeeps(TooMany, "limit", 100000, is_witness, plan, plan.root, "t", (2000, more, (0,)))
        self.assertIs(is_witness(plan, plan.root, "r", (LONGEST, more, (0,))), False)
        self.assertIs(is_witness(plan, ("t",), "t", (LONGEST, more, (0,))), True)
        root = Store(plan.question, {"r": column[:300], "s": column[:300]})
        self.assertIs(is_witness(plan, plan.root, "t", (300, root, (0,))), True)

    def test_other_values(self):
        number, store, row = witness(PLAN, RS, "r", ONE, 5)
        other = Store(TRI.with_groups(("a",)), store.rows)
        for value in [
            *all_kinds(), (number, store), (number, store, row, None), [number, store, row], (store, number, row), (row, store, number),
            (True, store, row), (0, store, row), (-5, store, row), (LONGEST + 1, store, row), (str(number), store, row),
            (number, store.rows, row), (number, other, row), (number, None, row), (number, TRI, row), (number, store, None),
            (number, store, [0, 0]), (number, store, (0,)), (number, store, (0, 0, 0)), (number, store, (0, True)),
            (number, store, (0, LONGEST + 1)), (number, store, ("0", "0")), (5.0, store, row), (number, Store(STAR, {}), row),
        ]:
            self.assertIs(is_witness(PLAN, RS, "r", value), False)
        ones = witness(PLAN, RS, "r", ONE, 1)
        self.assertIs(is_witness(PLAN, RS, "r", ones), True)
        self.assertIs(is_witness(PLAN, RS, "r", (True, *ones[1:])), False)


class Errors(Strict, unittest.TestCase):
    PLACES = [(0, None, InvalidPlan), (0, TRI, InvalidPlan), (1, ("r", "t"), InvalidView), (1, None, InvalidView),
              (2, "t", UnknownName), (2, None, UnknownName), (2, ["r"], UnknownName)]
    WEIGHTS = [(3, None, InvalidWeights), (3, (("c", (2, 1)),), InvalidWeights), (3, (("a", (1, 1)),), InvalidWeights),
               (3, (("c", (2, 2)),), InvalidWeights)]
    NUMBERS = [(4, 0, InvalidNumber), (4, 1001, InvalidNumber), (4, None, InvalidNumber), (4, True, InvalidNumber)]

    def test_the_first_error(self):
        self.assertFirst(spread, [PLAN, RS, "r", ONE], [*self.PLACES, *self.WEIGHTS])
        for call in (worst_store, worst_touched, witness):
            self.assertFirst(call, [PLAN, RS, "r", ONE, 5], [*self.PLACES, *self.WEIGHTS, *self.NUMBERS])
        less = (3, (("c", (1, 2)),), InvalidWeights)
        self.assertFirst(witness, [PLAN, RS, "r", ONE, 5], [*self.PLACES, less, (3, (), InvalidWeights), *self.NUMBERS])
        for value in (None, witness(PLAN, RS, "r", ONE, 5)):
            self.assertFirst(is_witness, [PLAN, RS, "r", value], self.PLACES)
        self.assertFirst(worst_row, [PLAN, "t"], [(0, None, InvalidPlan), (1, "q", UnknownName), (1, None, UnknownName)])

    def test_numbers(self):
        for value in [*kinds_but(int), 0, -1, 1001, LONGEST, LONGEST + 1, -LONGEST]:
            for call in (worst_store, worst_touched, witness):
                self.assertKeeps(InvalidNumber, "value", value, call, PLAN, RS, "r", ONE, value)
        wide = Plan.of_text(TRI.with_size("s", Ratio(9, 1)), "((r s) t)")
        self.assertFails(InvalidNumber, worst_store, wide, RS, "r", (("c", (9, 1)),), 1001)
        self.assertFails(TooMany, worst_store, wide, RS, "r", (("c", (9, 1)),), 1000)

    def test_weights(self):
        for value in [value for value in (*NO_WEIGHTS, *all_kinds()) if value != ()]:
            for call in (worst_store, worst_touched, witness):
                self.assertFails(InvalidWeights, call, PLAN, RS, "r", value, 2)
            self.assertFails(InvalidWeights, spread, PLAN, RS, "r", value)
        self.assertSame([spread(PLAN, RS, "r", ()), worst_touched(PLAN, RS, "r", (), 9)], [1, 1])
        self.assertSame(worst_store(PLAN, RS, "r", (), 9).rows, {"r": (), "s": ((0, 0),), "t": ()})

    def test_other_kinds(self):
        for value in kinds_but(Plan):
            self.assertFails(InvalidPlan, worst_row, value, "q")
        for value in [*all_kinds(), ("r",)]:
            self.assertKeeps(UnknownName, "word", value, worst_row, PLAN, value)
