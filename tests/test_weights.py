"""Stage 7, [0.15], [0.16] and [0.17]: coverings, fillings, degrees, and bounds."""

import fractions
import math
import unittest

from tests.force import (
    amounts, covers_by_force, drawn_plan, drawn_question, drawn_row, drawn_store, drawn_weights, fills_by_force, fraction, many,
    places_of_plan, price_by_force,
)
from tests.samples import LONGEST, PATH, PLAN, STAR, TRI, Strict, all_kinds, kinds_but
from touchrows.base.powers import root
from touchrows.base.questions import Question
from touchrows.base.ratios import Ratio
from touchrows.errors import InvalidOperation, InvalidPlan, InvalidView, InvalidWeights, UnknownName
from touchrows.keep.keepers import Keeper
from touchrows.plan.plans import Plan, flat_plan
from touchrows.plan.shapes import each_plan
from touchrows.weigh.simplex import solved
from touchrows.weigh.weights import (
    bound, covering, degree, filling, is_covering, is_filling, is_greatest_filling, is_least_covering, price, worth,
)

WHOLE = flat_plan(TRI.with_table("u", ("d",)).with_groups(("a", "b", "c")))
HALVES = (("a", (1, 2)), ("b", (1, 2)), ("c", (1, 2)))
THIRDS = (("r", (1, 3)), ("s", (2, 3)))

# Values that are no weights of any names.
NO_WEIGHTS = (
    None, 0, 1, True, "r", "r 1/2", ["r"], [("r", (1, 2))], {"r": (1, 2)}, {"r": Ratio(1, 2)}, (None,), ("r",), ("r", (1, 2)),
    (("r", (1, 2)), None), (("r",),), (("r", (1, 2), 3),), (["r", (1, 2)],), (("r", [1, 2]),), (("r", (1,)),),
    (("r", (1, 2, 3)),), (("r", Ratio(1, 2)),), (("r", "1/2"),), (("r", 1),), (("r", (True, 2)),), (("r", (1, True)),),
    (("r", (1.0, 2)),), (("r", (0, 1)),), (("r", (-1, 2)),), (("r", (1, -2)),), (("r", (1, 0)),), (("r", (2, 4)),),
    (("r", (2, 2)),), (("r", (None, 1)),), (("r", ("1", 2)),), (("s", (1, 2)), ("r", (1, 2))), (("r", (1, 2)), ("r", (1, 2))),
    (("r", (1, 2)), ("r", (2, 3))), (("R", (1, 2)),), (("", (1, 2)),), ((1, (1, 2)),), ((None, (1, 2)),),
    ((("r",), (1, 2)),), (("abcdefghi", (1, 2)),), (("r", (LONGEST + 1, 1)),), (("r", (1, LONGEST + 1)),),
    (("r", (LONGEST + 2, LONGEST + 1)),), TRI, PLAN, Ratio(1, 2),
)
LONG = (LONGEST, LONGEST - 1)


def drawn_plans(times, seed, most=4):
    """All plans of drawn questions."""
    for draw in many(times, seed):
        question = drawn_question(draw, draw.randint(1, most), columns=draw.randint(1, 8), sizes=draw.random() < 0.7)
        for plan in each_plan(question):
            yield draw, plan


def others_of(view, table):
    return [name for name in view if name != table]


class Told(Strict, unittest.TestCase):
    def test_drawn_plans(self):
        for _, plan in drawn_plans(60, "degrees"):
            question = plan.question
            for view, table in places_of_plan(plan):
                others, columns = others_of(view, table), plan.open_columns(view, table)
                cover, fill = covering(plan, view, table), filling(plan, view, table)
                told = fraction(degree(plan, view, table))
                self.assertTrue(covers_by_force(question, others, columns, cover))
                self.assertTrue(fills_by_force(question, others, columns, fill))
                self.assertEqual([price_by_force(question, cover), sum(amounts(fill).values())], [told, told])
                self.assertTrue(all(weight <= 1 for weight in amounts(cover).values()))
                self.assertLessEqual(math.lcm(*[pair[1] for _, pair in cover]), 24)
                self.assertTrue(all(max(pair) < 10 ** 50 for _, pair in (*cover, *fill)))
                for judge, value in (
                    (is_covering, cover), (is_least_covering, cover), (is_filling, fill), (is_greatest_filling, fill),
                ):
                    self.assertIs(judge(plan, view, table, value), True)
                self.assertEqual([price(plan, cover), worth(fill)], [degree(plan, view, table)] * 2)

    def test_many_tables(self):
        for draw in many(12, "six"):
            question = drawn_question(draw, 6, columns=8, sizes=True)
            plan = drawn_plan(draw, question)
            for view, table in places_of_plan(plan):
                cover, fill = covering(plan, view, table), filling(plan, view, table)
                self.assertTrue(covers_by_force(question, others_of(view, table), plan.open_columns(view, table), cover))
                self.assertTrue(fills_by_force(question, others_of(view, table), plan.open_columns(view, table), fill))
                self.assertEqual(price_by_force(question, cover), sum(amounts(fill).values()))
                self.assertTrue(all(weight <= 1 for weight in amounts(cover).values()))
                self.assertLessEqual(math.lcm(*[pair[1] for _, pair in cover]), 24)

    def test_great_sizes_and_great_denominators(self):
        sizes = {"r": Ratio(539, 60), "s": Ratio(1, 59), "t": Ratio(500, 57), "u": Ratio(9, 1)}
        question = Question(WHOLE.question.tables, ("a", "b", "c"), sizes=sizes)
        plan = flat_plan(question)
        fill = filling(plan, plan.root, "u")
        self.assertTrue(fills_by_force(question, ("r", "s", "t"), ("a", "b", "c"), fill))
        self.assertEqual(worth(fill), price(plan, covering(plan, plan.root, "u")))
        self.assertTrue(all(max(pair) < 10 ** 50 for _, pair in fill))

    def test_sizes_0(self):
        question = Question(WHOLE.question.tables, ("a", "b", "c"), sizes={"r": Ratio(0, 1), "s": Ratio(0, 1)})
        plan = flat_plan(question)
        self.assertEqual(degree(plan, plan.root, "u"), Ratio(0, 1))
        self.assertSame(filling(plan, plan.root, "u"), ())
        self.assertTrue(covers_by_force(question, ("r", "s", "t"), ("a", "b", "c"), covering(plan, plan.root, "u")))
        self.assertIs(is_least_covering(plan, plan.root, "u", (("r", (7, 2)), ("s", (1, 1)))), True)

    def test_without_open_columns(self):
        for plan, view, table in (
            (PLAN, ("r",), "r"), (PLAN, PLAN.root, "t"), (flat_plan(STAR), STAR.names, "u"),
            (flat_plan(Question({"r": ("a",)}, ("a",))), ("r",), "r"),
        ):
            self.assertSame([covering(plan, view, table), filling(plan, view, table)], [(), ()])
            self.assertSame(str(degree(plan, view, table)), "0")


class Known(Strict, unittest.TestCase):
    def degree_of(self, tables, sizes=None):
        """The degree of a table apart from all others, at the root of the flat plan, where all columns are asked for."""
        columns = tuple(sorted({column for names in tables.values() for column in names}))
        plan = flat_plan(Question({**tables, "zz": ("a",)}, columns, sizes=sizes))
        self.assertEqual(plan.open_columns(plan.root, "zz"), tuple(name for name in columns if name != "a"))
        return str(degree(plan, plan.root, "zz"))

    def test_rings(self):
        # The column a is the table's own and must not be covered, so the rings have columns from b on.
        for size, wanted in ((3, "3/2"), (4, "2"), (5, "5/2")):
            letters = "bcdefgh"[:size]
            ring = {name: tuple(sorted((letters[at], letters[at - 1]))) for at, name in enumerate("pqrst"[:size])}
            self.assertEqual(self.degree_of({**ring}), wanted)

    def test_ways(self):
        for size, wanted in ((1, "1"), (2, "2"), (3, "2"), (4, "3"), (5, "3")):
            letters = "bcdefgh"
            way = {name: (letters[at], letters[at + 1]) for at, name in enumerate("pqrst"[:size])}
            self.assertEqual(self.degree_of(way), wanted)

    def test_stars(self):
        for size in range(1, 6):
            star = {name: ("b", column) for name, column in zip("pqrst", "cdefg"[:size])}
            self.assertEqual(self.degree_of(star), str(size))

    def test_one_table_of_all_columns(self):
        tables = {"p": ("b", "c"), "q": ("c", "d"), "r": ("b", "c", "d", "e"), "s": ("e",)}
        self.assertEqual(self.degree_of(tables), "1")
        self.assertEqual(self.degree_of(tables, {"r": Ratio(7, 2)}), "3")
        self.assertEqual(self.degree_of(tables, {"r": Ratio(5, 2)}), "5/2")

    def test_tables_without_common_columns(self):
        tables = {"p": ("b",), "q": ("c", "d"), "r": ("e",)}
        self.assertEqual(self.degree_of(tables), "3")
        self.assertEqual(self.degree_of(tables, {"p": Ratio(1, 2), "q": Ratio(2, 3), "r": Ratio(0, 1)}), "7/6")

    def test_all_pairs_of_four_columns(self):
        pairs = {"p": ("b", "c"), "q": ("b", "d"), "r": ("b", "e"), "s": ("c", "d"), "t": ("c", "e")}
        self.assertEqual(self.degree_of(pairs), "2")
        triples = {"p": ("b", "c", "d"), "q": ("b", "c", "e"), "r": ("b", "d", "e"), "s": ("c", "d", "e")}
        self.assertEqual(self.degree_of(triples), "4/3")
        self.assertEqual(self.degree_of(triples, {name: Ratio(1, 4) for name in "pqrs"}), "1/3")

    def test_triangles(self):
        for text, wanted in (("((r s) t)", "1 1 0"), ("(r s t)", "1 1 1"), ("(r (s t))", "0 1 1")):
            plan = Plan.of_text(TRI, text)
            told = [max(fraction(degree(plan, view, table)) for view in plan.path(table)) for table in "rst"]
            self.assertEqual(" ".join(map(str, told)), wanted)

    def test_examples(self):
        told = [
            str(degree(WHOLE, WHOLE.root, "u")), covering(WHOLE, WHOLE.root, "u"),
            worth(filling(WHOLE, WHOLE.root, "u")) == Ratio(3, 2),
        ]
        self.assertSame(told, ["3/2", (("r", (1, 2)), ("s", (1, 2)), ("t", (1, 2))), True])
        told = [
            str(degree(PLAN, ("r", "s"), "r")), covering(PLAN, ("r", "s"), "r"), filling(PLAN, ("r", "s"), "r"),
            str(degree(PLAN, PLAN.root, "t")),
        ]
        self.assertSame(told, ["1", (("s", (1, 1)),), (("c", (1, 1)),), "0"])
        told = [
            bound((("r", (1, 2)), ("s", (1, 2))), {"r": 5, "s": 7}), bound((), {}),
            str(price(WHOLE, (("r", (1, 2)), ("u", (2, 1))))),
        ]
        self.assertSame(told, [5, 1, "5/2"])


class Judges(Strict, unittest.TestCase):
    JUDGES = (is_covering, is_filling, is_least_covering, is_greatest_filling)

    def test_drawn_weights(self):
        seen = set()
        for draw, plan in drawn_plans(25, "judges"):
            question = plan.question
            for view, table in places_of_plan(plan):
                others, columns = others_of(view, table), plan.open_columns(view, table)
                least = fraction(degree(plan, view, table))
                for _ in range(4):
                    value = drawn_weights(draw, others)
                    covers = covers_by_force(question, others, columns, value)
                    self.assertIs(is_covering(plan, view, table, value), covers)
                    best = covers and price_by_force(question, value) == least
                    self.assertIs(is_least_covering(plan, view, table, value), best)
                    value = drawn_weights(draw, columns)
                    fills = fills_by_force(question, others, columns, value)
                    self.assertIs(is_filling(plan, view, table, value), fills)
                    greatest = fills and sum(amounts(value).values()) == least
                    self.assertIs(is_greatest_filling(plan, view, table, value), greatest)
                    if columns:
                        seen |= {("covers", covers, best), ("fills", fills, greatest)}
        self.assertEqual(len(seen), 6)

    def test_other_values(self):
        wrong = [value for value in (*NO_WEIGHTS, *all_kinds()) if value != ()]
        for judge in self.JUDGES:
            for plan, view, table in ((WHOLE, WHOLE.root, "u"), (PLAN, ("r", "s"), "r"), (PLAN, ("r",), "r")):
                for value in wrong:
                    self.assertIs(judge(plan, view, table, value), False)

    def test_the_empty_one(self):
        self.assertSame([judge(PLAN, ("r", "s"), "r", ()) for judge in self.JUDGES], [False, True, False, False])
        self.assertSame([judge(PLAN, PLAN.root, "t", ()) for judge in self.JUDGES], [True, True, True, True])

    def test_names_that_are_not_there(self):
        full = (("r", (1, 1)), ("s", (1, 1)), ("t", (1, 1)))
        self.assertIs(is_covering(WHOLE, WHOLE.root, "u", full), True)
        for more in ("q", "u", "v", "a"):
            self.assertIs(is_covering(WHOLE, WHOLE.root, "u", tuple(sorted((*full, (more, (1, 1)))))), False)
        self.assertIs(is_covering(PLAN, ("r", "s"), "r", (("s", (1, 1)), ("t", (1, 1)))), False)
        self.assertIs(is_filling(WHOLE, WHOLE.root, "u", HALVES), True)
        for more in ("d", "e", "r"):
            self.assertIs(is_filling(WHOLE, WHOLE.root, "u", tuple(sorted((*HALVES, (more, (1, 9)))))), False)
        self.assertIs(is_filling(PLAN, ("r", "s"), "r", (("a", (1, 9)),)), False)

    def test_edges(self):
        almost, more = (LONGEST - 1, LONGEST), (LONGEST, LONGEST - 1)
        for pair, covers, fills in ((almost, False, True), ((1, 1), True, True), (more, True, False), ((LONGEST, 1), True, False)):
            self.assertIs(is_covering(PLAN, ("r", "s"), "r", (("s", pair),)), covers)
            self.assertIs(is_filling(PLAN, ("r", "s"), "r", (("c", pair),)), fills)
            self.assertIs(is_least_covering(PLAN, ("r", "s"), "r", (("s", pair),)), pair == (1, 1))
            self.assertIs(is_greatest_filling(PLAN, ("r", "s"), "r", (("c", pair),)), pair == (1, 1))
        thirds = (("r", (1, 3)), ("s", (2, 3)), ("t", (2, 3)))
        self.assertIs(is_covering(WHOLE, WHOLE.root, "u", thirds), True)
        self.assertIs(is_least_covering(WHOLE, WHOLE.root, "u", thirds), False)
        self.assertIs(is_covering(WHOLE, WHOLE.root, "u", (("r", (1, 3)), ("s", (2, 3)), ("t", (1, 2)))), False)

    def test_other_right_values(self):
        # Each of these is as good as what is told: the columns a and c, or b and c, of one way.
        plan = Plan.of_text(PATH.with_groups(("a", "b", "c", "d")), "(r s t)")
        for value in ((("a", (1, 1)),), (("a", (1, 3)), ("b", (2, 3))), (("b", (1, 1)),)):
            self.assertIs(is_greatest_filling(plan, plan.root, "t", value), True)
        self.assertIs(is_greatest_filling(plan, plan.root, "t", (("a", (1, 3)), ("b", (1, 3)))), False)

    def test_errors(self):
        wrong = [(0, None, InvalidPlan), (0, TRI, InvalidPlan), (1, ("r", "t"), InvalidView), (1, None, InvalidView),
                 (1, ["r", "s"], InvalidView), (2, "t", UnknownName), (2, None, UnknownName), (2, ["r"], UnknownName)]
        for call in (degree, covering, filling):
            self.assertFirst(call, [PLAN, ("r", "s"), "r"], wrong)
        for call in self.JUDGES:
            for value in (None, (), (("s", (1, 1)),)):
                self.assertFirst(call, [PLAN, ("r", "s"), "r", value], wrong)
        for call in (degree, covering, filling):
            for value in kinds_but(Plan):
                self.assertFails(InvalidPlan, call, value, ("r",), "r")
            for value in all_kinds():
                self.assertFails(InvalidView, call, PLAN, value, "r")
                self.assertKeeps(UnknownName, "word", value, call, PLAN, ("r", "s"), value)


class Prices(Strict, unittest.TestCase):
    def test_drawn_weights(self):
        for draw in many(80, "prices"):
            plan = flat_plan(drawn_question(draw, draw.randint(1, 6), columns=8, sizes=True))
            value = drawn_weights(draw, plan.root)
            self.assertEqual(fraction(price(plan, value)), price_by_force(plan.question, value))
            self.assertEqual(fraction(worth(value)), sum(amounts(value).values()))

    def test_known_ones(self):
        plan = flat_plan(TRI.with_size("r", Ratio(3, 2)).with_size("s", Ratio(0, 1)))
        value = (("r", (2, 3)), ("s", (99, 1)), ("t", (1, 6)))
        self.assertSame([str(price(plan, value)), str(worth(value)), str(price(plan, ())), str(worth(()))],
                        ["7/6", "599/6", "0", "0"])

    def test_long_weights(self):
        value = (("r", (LONGEST, 1)), ("s", (1, LONGEST)), ("t", LONG))
        wanted = fractions.Fraction(LONGEST) + fractions.Fraction(1, LONGEST) + fractions.Fraction(*LONG)
        self.assertEqual([fraction(price(flat_plan(TRI), value)), fraction(worth(value))], [wanted, wanted])

    def test_names_of_all_kinds(self):
        self.assertSame(str(worth((("a", (1, 2)), ("abcdefgh", (1, 3)), ("zz", (1, 6))))), "1")
        self.assertSame(str(worth(tuple((name, (1, 100)) for name in sorted({a + b for a in "abcdefghij" for b in "klmnopqrst"})))), "1")

    def test_no_weights(self):
        for value in (*NO_WEIGHTS, *[value for value in all_kinds() if value != ()]):
            self.assertFails(InvalidWeights, worth, value)
            self.assertFails(InvalidWeights, price, PLAN, value)
            self.assertFails(InvalidPlan, price, None, value)
        for value in ((("q", (1, 2)),), (("a", (1, 2)),), (("r", (1, 2)), ("u", (1, 2)))):
            self.assertFails(InvalidWeights, price, PLAN, value)
            self.assertFails(InvalidPlan, price, TRI, value)
        for value in kinds_but(Plan):
            self.assertFails(InvalidPlan, price, value, ())
        self.assertSame(str(price(PLAN, (("r", (1, 2)),))), "1/2")


class Bounds(Strict, unittest.TestCase):
    def greatest(self, weights, counts):
        common = math.lcm(*[pair[1] for _, pair in weights])
        product = math.prod(counts[name] ** (pair[0] * common // pair[1]) for name, pair in weights)
        number = 0
        while (number + 1) ** common <= product:
            number += 1
        return number

    def test_drawn_ones(self):
        for draw in many(150, "bounds"):
            weights = tuple(
                (name, draw.choice([(1, 2), (1, 1), (1, 3), (2, 3), (1, 4), (3, 4), (5, 8)]))
                for name in sorted(draw.sample(("r", "s", "t", "u"), draw.randint(0, 3)))
            )
            counts = {name: draw.choice((0, 1, 2, 7, 30)) for name in "rstu"}
            self.assertSame(bound(weights, counts), self.greatest(weights, counts))

    def test_exact_roots(self):
        for number in (1, 2, 3, 12, 44):
            for weights in ((("r", (1, 2)), ("s", (1, 2))),):
                self.assertSame(bound(weights, {"r": number, "s": number}), number)
            self.assertSame(bound((("r", (1, 2)),), {"r": number ** 2}), number)
            self.assertSame(bound((("r", (1, 2)),), {"r": number ** 2 - 1}), number - 1)
        self.assertSame(bound((("r", (1, 3)),), {"r": 1728}), 12)
        self.assertSame([bound((("r", (1, 3)),), {"r": 1727}), bound((("r", (2, 3)),), {"r": 1000})], [11, 100])
        self.assertSame([bound((("r", (2, 3)),), {"r": 999}), bound((("r", (1, 24)),), {"r": 2000})], [99, 1])

    def test_counts(self):
        thirds = (("r", (1, 1)), ("s", (1, 1)))
        for one, other, wanted in ((0, 2000, 0), (2000, 0, 0), (1, 2000, 2000), (2000, 2000, 4000000), (1, 1, 1), (0, 0, 0)):
            self.assertSame(bound(thirds, {"r": one, "s": other}), wanted)
        self.assertSame(bound((), {"r": 0}), 1)
        self.assertSame(bound((("r", (23, 24)),), {"r": 2000, "s": 0}), self.greatest((("r", (23, 24)),), {"r": 2000}))
        six = tuple((name, (1, 1)) for name in "rstuvw")
        self.assertSame(bound(six, {name: 2000 for name in "rstuvw"}), 2000 ** 6)

    def test_greatest_denominators(self):
        self.assertSame(bound((("r", (1, 8)), ("s", (1, 3))), {"r": 256, "s": 8}), 4)
        for weights in ((("r", (1, 24)),), (("r", (7, 24)), ("s", (1, 12))), (("r", (1, 8)), ("s", (1, 3))), (("r", (5, 23)),)):
            bound(weights, {"r": 9, "s": 9})
        for weights in ((("r", (1, 25)),), (("r", (1, 8)), ("s", (1, 5))), (("r", (1, 48)),), (("r", (1, LONGEST)),),
                        (("r", (1, 24)), ("s", (1, 5)))):
            self.assertFails(InvalidWeights, bound, weights, {"r": 9, "s": 9})

    def test_weights_above_1(self):
        self.assertSame(bound((("r", (1, 1)),), {"r": 9}), 9)
        for pair in ((2, 1), (3, 2), (25, 24), (LONGEST, 1)):
            self.assertFails(InvalidWeights, bound, (("r", pair),), {"r": 9})
            self.assertFails(InvalidWeights, bound, (("q", (1, 1)), ("r", pair)), {"r": 9, "q": 1})

    def test_no_weights(self):
        for value in (*NO_WEIGHTS, *[value for value in all_kinds() if value != ()]):
            self.assertFails(InvalidWeights, bound, value, {"r": 1, "s": 1})
            self.assertFails(InvalidWeights, bound, value, None)

    def test_no_counts(self):
        for value in kinds_but(dict):
            self.assertFails(InvalidOperation, bound, THIRDS, value)
            self.assertFails(InvalidOperation, bound, (), value)
        for value in ({}, {"r": 1}, {"s": 1}, {"r": 1, "t": 1}, {"r": 1, "S": 1}, {1: 1}):
            self.assertFails(InvalidOperation, bound, THIRDS, value)
        for count in (-1, 2001, LONGEST, True, False, None, "1", 1.0, (1,), [1], Ratio(1, 1)):
            self.assertFails(InvalidOperation, bound, THIRDS, {"r": 1, "s": count})
            self.assertFails(InvalidOperation, bound, THIRDS, {"s": 1, "r": count})
            self.assertFails(InvalidOperation, bound, THIRDS, {"r": 1, "s": 1, "t": count})
        self.assertSame(bound(THIRDS, {"t": 5, "s": 8, "r": 27, "a": 0}), 12)

    def test_roots(self):
        for exponent in range(1, 25):
            for number in (0, 1, 2, 5, 63, 64, 1000, 2 ** 40 - 1):
                power = number ** exponent
                self.assertEqual(root(power, exponent), number)
                self.assertEqual(root(power + 1, exponent), number + (number == 0 or exponent == 1))
                if number > 1:
                    self.assertEqual(root(power - 1, exponent), number - 1)


class Changes(Strict, unittest.TestCase):
    def test_no_change_touches_more(self):
        for draw in many(50, "statement"):
            question = drawn_question(draw, draw.randint(2, 5), columns=6)
            plan = drawn_plan(draw, question)
            keeper = Keeper(plan, drawn_store(draw, question, 5, 3))
            for _ in range(12):
                table = draw.choice(question.names)
                row = drawn_row(draw, question, table)
                counts = {name: len(rows) for name, rows in keeper.store.rows.items()}
                number = max([1, *counts.values()])
                for view, touched in zip(plan.path(table), keeper(table, row)):
                    weights = covering(plan, view, table)
                    common = math.lcm(*[pair[1] for _, pair in weights])
                    powers = [counts[name] ** (pair[0] * common // pair[1]) for name, pair in weights]
                    self.assertLessEqual(touched ** common, math.prod(powers))
                    self.assertLessEqual(touched, bound(weights, counts))
                    told = degree(plan, view, table)
                    self.assertLessEqual(touched ** told.bottom, number ** told.top)


class Simplex(Strict, unittest.TestCase):
    def test_drawn_ones(self):
        for draw in many(300, "simplex"):
            rows, columns = draw.randint(1, 6), draw.randint(0, 8)
            table = [[draw.randint(0, 1) for _ in range(columns)] for _ in range(rows)]
            for column in range(columns):
                table[draw.randrange(rows)][column] = 1
            limits = [draw.choice((0, 0, 1, 1, 2, 5, 60)) for _ in range(rows)]
            amounts, prices, scale = solved(table, limits, columns)
            self.assertGreater(scale, 0)
            self.assertTrue(all(one >= 0 for one in (*amounts, *prices)))
            for row, limit in zip(table, limits):
                self.assertLessEqual(sum(one * other for one, other in zip(row, amounts)), limit * scale)
            for column in range(columns):
                self.assertGreaterEqual(sum(row[column] * one for row, one in zip(table, prices)), scale)
            self.assertEqual(sum(amounts), sum(one * limit for one, limit in zip(prices, limits)))
            self.assertTrue(all(one <= scale for one in prices))
            self.assertLessEqual(max([fractions.Fraction(one, scale).denominator for one in prices]), 9)

    def test_nothing_to_do(self):
        self.assertSame(solved([], [], 0), ([], [], 1))
        self.assertSame(solved([[], []], [3, 0], 0), ([], [0, 0], 1))
