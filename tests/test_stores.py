"""Stage 4 and [0.9]: stores."""

import itertools
import unittest

from tests.force import drawn_question, drawn_row, drawn_rows, drawn_store, many
from tests.samples import LONGEST, PATH, STAR, THREE, TRI, Strict, all_kinds, kinds_but
from touchrows.base.questions import Question
from touchrows.base.ratios import Ratio
from touchrows.data.stores import Store, answer_of, readings
from touchrows.errors import (
    InvalidNumber, InvalidQuestion, InvalidRow, InvalidStore, RowAbsent, RowThere, TooMany, UnknownName,
)

ONE = Question({"r": ("a",), "s": ("a", "b")}, ())
FULL = tuple((number,) for number in range(2000))
NO_ROWS_OF_TWO = (
    None, 1, "ab", "12", [1, 2], [], {}, {1: 2}, (), (1,), (1, 2, 3), (1, True), (False, 1), (1, None), (1, "2"), (1, (2,)),
    (1, LONGEST + 1), (-LONGEST - 1, 1), (1, [2]), ((1, 2),), (Ratio(1, 1), 1), TRI, THREE, 1.5, (1.0, 2),
)


class Making(Strict, unittest.TestCase):
    def test_rows_ascend(self):
        store = Store(STAR, {"u": ((3,), (-1,), (2,)), "r": ((2, 1), (1, 9), (1, -3))})
        self.assertSame(store.rows, {"r": ((1, -3), (1, 9), (2, 1)), "s": (), "u": ((-1,), (2,), (3,))})
        self.assertEqual(store.question, STAR)

    def test_drawn_stores(self):
        for draw in many(60, "stores"):
            question = drawn_question(draw, draw.randint(1, 6))
            rows = drawn_rows(draw, question, 9)
            told = {name: tuple(sorted(rows[name])) for name in sorted(rows)}
            self.assertSame(Store(question, rows).rows, told)
            backwards = {name: told[name][::-1] for name in list(told)[::-1] if told[name]}
            self.assertEqual(Store(question, backwards), Store(question, rows))

    def test_no_question(self):
        for value in kinds_but(Question):
            self.assertFails(InvalidQuestion, Store, value, {})
            self.assertFails(InvalidQuestion, Store, value, value)

    def test_no_dict(self):
        for value in kinds_but(dict):
            self.assertFails(InvalidStore, Store, TRI, value)

    def test_tables_that_are_not_there(self):
        for table in ("q", "R", "", "a", None, 1, True, ("r",), "r "):
            for rows in ((), ((1, 2),)):
                self.assertFails(InvalidStore, Store, TRI, {table: rows})
                self.assertFails(InvalidStore, Store, TRI, {"r": ((1, 2),), table: rows})

    def test_no_tuples_of_rows(self):
        for value in [value for value in all_kinds() if value != ()] + [[(1, 2)], {(1, 2): True}, "ab", (1, 2), 1]:
            self.assertFails(InvalidStore, Store, TRI, {"r": value})
            self.assertFails(InvalidStore, Store, TRI, {"s": ((1, 2),), "r": value})

    def test_no_rows(self):
        for row in NO_ROWS_OF_TWO:
            self.assertFails(InvalidStore, Store, TRI, {"s": (row,)})
            self.assertFails(InvalidStore, Store, TRI, {"s": ((1, 2), row)})
            self.assertFails(InvalidStore, Store, TRI, {"r": ((1, 2),), "s": (row, (1, 2))})

    def test_rows_of_sixty_digits(self):
        rows = ((-LONGEST, LONGEST), (LONGEST, -LONGEST))
        self.assertSame(Store(TRI, {"t": rows}).rows["t"], rows)

    def test_rows_twice(self):
        self.assertFails(InvalidStore, Store, TRI, {"r": ((1, 2), (1, 2))})
        self.assertFails(InvalidStore, Store, TRI, {"r": ((1, 2), (2, 1), (3, 4), (1, 2))})
        self.assertEqual(len(Store(TRI, {"r": ((1, 2), (2, 1)), "s": ((1, 2), (2, 1))})), 4)

    def test_two_thousand_rows(self):
        self.assertSame(Store(ONE, {"r": FULL[::-1]}).rows["r"], FULL)
        self.assertFails(InvalidStore, Store, ONE, {"r": (*FULL, (2000,))})
        self.assertFails(InvalidStore, Store, ONE, {"r": (*FULL, (0,))})
        both = Store(ONE, {"r": FULL, "s": tuple((0, number) for number in range(2000))})
        self.assertEqual(len(both), 4000)

    def test_what_is_handed_in_stays_apart(self):
        rows = {"r": ((1, 2),)}
        store = Store(TRI, rows)
        self.assertEqual(rows, {"r": ((1, 2),)})
        rows["r"] = ((5, 5),)
        rows["s"] = ((7, 7),)
        self.assertEqual(store.rows, {"r": ((1, 2),), "s": (), "t": ()})

    def test_what_is_told_stays_apart(self):
        told = THREE.rows
        told["r"] = ()
        del told["s"]
        self.assertEqual(len(THREE), 5)
        self.assertEqual(THREE.rows["r"], ((1, 2), (1, 3)))
        self.assertSame(list(THREE.rows), ["r", "s", "t"])

    def test_never_changes(self):
        for name in ("rows", "question"):
            with self.assertRaises(AttributeError):
                setattr(THREE, name, 5)


class OneRow(Strict, unittest.TestCase):
    def test_has_row(self):
        self.assertIs(THREE.has_row("r", (1, 2)), True)
        self.assertIs(THREE.has_row("r", (1, 3)), True)
        for row in ((2, 1), (1, 1), (1, 4), (0, 0), (9, 9), (1, 2, 3), (1,), [1, 2], *NO_ROWS_OF_TWO, *all_kinds()):
            if row != (1, 2):
                self.assertIs(THREE.has_row("r", row), False)

    def test_true_is_not_1(self):
        self.assertIs(THREE.has_row("r", (True, 2)), False)
        self.assertIs(("r", (True, 2)) in THREE, False)
        self.assertFails(InvalidRow, THREE.without_row, "r", (True, 2))

    def test_drawn_rows(self):
        for draw in many(40, "rows"):
            question = drawn_question(draw, draw.randint(1, 4))
            store = drawn_store(draw, question, 12)
            for _ in range(20):
                table = draw.choice(question.names)
                row = drawn_row(draw, question, table)
                there = row in store.rows[table]
                self.assertIs(store.has_row(table, row), there)
                self.assertIs((table, row) in store, there)
                call = store.without_row if there else store.with_row
                other = store.with_row if there else store.without_row
                told = call(table, row)
                wanted = {**store.rows, table: tuple(sorted(set(store.rows[table]) ^ {row}))}
                self.assertSame(told.rows, wanted)
                self.assertEqual(told, Store(question, wanted))
                self.assertSame(list(told), list(Store(question, wanted)))
                self.assertKeeps(RowThere if there else RowAbsent, "placed" if there else "missed", row, other, table, row)
                self.assertSame(told - (table, row) if not there else told + (table, row), store)
                store = told

    def test_elder_stores_stay(self):
        elder = str(THREE), THREE.rows, list(THREE)
        younger = THREE.with_row("r", (0, 0)).without_row("s", (2, 5)).with_row("t", (7, 7))
        self.assertEqual((str(THREE), THREE.rows, list(THREE)), elder)
        self.assertEqual(len(younger), 6)

    def test_unknown_tables(self):
        for value in [*all_kinds(), "q", "R", ("r",), ["r"]]:
            for call in (THREE.has_row, THREE.with_row, THREE.without_row):
                for row in ((1, 2), (8, 8), None):
                    self.assertKeeps(UnknownName, "word", value, call, value, row)

    def test_no_rows(self):
        for row in NO_ROWS_OF_TWO:
            self.assertFails(InvalidRow, THREE.with_row, "r", row)
            self.assertFails(InvalidRow, THREE.without_row, "r", row)
            self.assertFails(InvalidRow, lambda: THREE + ("r", row))
            self.assertFails(InvalidRow, lambda: THREE - ("r", row))

    def test_more_than_two_thousand(self):
        full = Store(ONE, {"r": FULL})
        self.assertKeeps(TooMany, "limit", 2000, full.with_row, "r", (2000,))
        self.assertKeeps(TooMany, "limit", 2000, lambda: full + ("r", (-1,)))
        self.assertKeeps(RowThere, "placed", (7,), full.with_row, "r", (7,))
        self.assertFails(InvalidRow, full.with_row, "r", (7, 7))
        self.assertEqual(len(full.with_row("s", (1, 2))), 2001)
        less = full - ("r", (1999,))
        self.assertEqual(less + ("r", (1999,)), full)
        self.assertEqual(len(less + ("r", (2000,))), 2000)
        self.assertEqual(len(full), 2000)

    def test_signs(self):
        for value in [*all_kinds(), (), ("r",), ("r", (1, 2), 3), ["r", (1, 2)], {"r": (1, 2)}, "r1", THREE]:
            if not isinstance(value, tuple) or len(value) != 2:
                self.assertFails(TypeError, lambda: THREE + value)
                self.assertFails(TypeError, lambda: THREE - value)
            self.assertFails(TypeError, lambda: value + THREE)
            self.assertFails(TypeError, lambda: value - THREE)
        self.assertKeeps(UnknownName, "word", "q", lambda: THREE + ("q", (1, 2)))
        self.assertKeeps(UnknownName, "word", 1, lambda: THREE - (1, 2))
        self.assertKeeps(UnknownName, "word", ["r"], lambda: THREE - (["r"], (1, 2)))
        self.assertKeeps(RowThere, "placed", (1, 2), lambda: THREE + ("r", (1, 2)))
        self.assertKeeps(RowAbsent, "missed", (2, 1), lambda: THREE - ("r", (2, 1)))


class Fitting(Strict, unittest.TestCase):
    def fits(self, size, rows, number):
        question = ONE.with_size("r", size)
        return Store(question, {"r": FULL[:rows]}).fits(number)

    def test_edges(self):
        for size, number, most in (
            (Ratio(1, 1), 1, 1), (Ratio(1, 1), 7, 7), (Ratio(1, 1), 1999, 1999), (Ratio(0, 1), 1, 1), (Ratio(0, 1), 99, 1),
            (Ratio(0, 1), LONGEST, 1), (Ratio(1, 2), 9, 3), (Ratio(1, 2), 10, 3), (Ratio(1, 2), 15, 3), (Ratio(1, 2), 16, 4),
            (Ratio(3, 2), 4, 8), (Ratio(3, 2), 5, 11), (Ratio(9, 1), 2, 512), (Ratio(9, 1), 1, 1), (Ratio(539, 60), 2, 506),
            (Ratio(1, 60), LONGEST, 9), (Ratio(1, 60), 2, 1), (Ratio(1, 20), LONGEST, 999), (Ratio(7, 60), 1000, 2),
            (Ratio(2, 3), 1000, 100), (Ratio(2, 3), 999, 99),
        ):
            self.assertIs(self.fits(size, most, number), True, (str(size), number))
            self.assertIs(self.fits(size, most + 1, number), False, (str(size), number))
            self.assertIs(self.fits(size, 0, number), True)

    def test_great_numbers(self):
        self.assertIs(self.fits(Ratio(9, 1), 2000, LONGEST), True)
        self.assertIs(self.fits(Ratio(539, 60), 2000, LONGEST), True)
        self.assertIs(self.fits(Ratio(1, 1), 2000, 2000), True)
        self.assertIs(self.fits(Ratio(1, 1), 2000, 1999), False)

    def test_all_tables_count(self):
        self.assertIs(THREE.fits(1), False)
        self.assertIs(THREE.fits(2), True)
        self.assertIs(Store(TRI, {"t": ((1, 1), (1, 2), (1, 3))}).fits(2), False)
        self.assertIs(Store(TRI, {}).fits(1), True)
        small = Store(TRI.with_size("s", Ratio(0, 1)), {"r": ((1, 2), (1, 3)), "s": ((1, 1), (2, 2))})
        self.assertIs(small.fits(LONGEST), False)

    def test_no_numbers(self):
        for value in [*kinds_but(int), 0, -1, -LONGEST, LONGEST + 1, 10 ** 99]:
            self.assertKeeps(InvalidNumber, "value", value, THREE.fits, value)


class Values(Strict, unittest.TestCase):
    def test_pairs_inside(self):
        for pair in THREE:
            self.assertIs(pair in THREE, True)
        for value in [
            *all_kinds(), ("r", (2, 1)), ("q", (1, 2)), ("t", (1, 2)), ["r", (1, 2)], ("r", [1, 2]), ("r", (1, 2), 1), ("r",),
            (1, 2), "r", ("r", (True, 2)), ("r", ("1", "2")), ("r", None), (("r",), (1, 2)), ((1, 2), "r"), (["r"], (1, 2)),
            ("r", (1, 2, 3)), ("r", ()), THREE,
        ]:
            self.assertIs(value in THREE, False)
            self.assertIs(value not in THREE, True)

    def test_length_and_order(self):
        wanted = [("r", (1, 2)), ("r", (1, 3)), ("s", (2, 5)), ("s", (3, 5)), ("t", (1, 5))]
        self.assertSame([len(THREE), list(THREE), tuple(THREE)], [5, wanted, tuple(wanted)])
        self.assertSame([len(Store(TRI, {})), list(Store(TRI, {}))], [0, []])
        for draw in many(20, "order"):
            store = drawn_store(draw, drawn_question(draw, draw.randint(1, 6)), 9)
            self.assertSame(list(store), sorted((name, row) for name, rows in store.rows.items() for row in rows))
            self.assertEqual(len(store), sum(map(len, store.rows.values())))

    def test_equality(self):
        same = Store(TRI, {"t": ((1, 5),), "s": ((3, 5), (2, 5)), "r": ((1, 3), (1, 2))})
        self.assertIs(THREE == same, True)
        self.assertIs(THREE != same, False)
        for other in (
            THREE - ("t", (1, 5)), THREE + ("r", (0, 0)), Store(TRI.with_size("r", Ratio(2, 1)), THREE.rows),
            Store(TRI.with_groups(("a",)), THREE.rows), Store(TRI, {}),
        ):
            self.assertIs(THREE == other, False)
            self.assertIs(THREE != other, True)
        for value in [*kinds_but(Store), THREE.rows, list(THREE), str(THREE), object()]:
            self.assertIs(THREE == value, False)
            self.assertIs(value == THREE, False)
            self.assertIs(THREE != value, True)

    def test_text(self):
        self.assertSame(str(THREE), "store with 5 rows in 3 tables")
        self.assertSame(str(Store(ONE, {})), "store with 0 rows in 2 tables")
        self.assertSame(str(Store(ONE, {"r": FULL})), "store with 2000 rows in 2 tables")

    def test_keyword_and_position(self):
        self.assertEqual(Store(question=TRI, rows={}), Store(TRI, {}))
        self.assertFails(TypeError, readings, THREE, ("r",))

    def test_example(self):
        two = THREE - ("t", (1, 5))
        told = [answer_of(two), str(two), ("s", (2, 5)) in two, (two + ("t", (1, 5))) == THREE, THREE.fits(1)]
        self.assertSame(told, [{}, "store with 4 rows in 3 tables", True, True, False])


class Orders(Strict, unittest.TestCase):
    def test_the_first_error(self):
        self.assertFails(InvalidQuestion, Store, None, None)
        self.assertFails(InvalidQuestion, Store, PATH.lines, {"q": ()})
        for table, row in itertools.product((None, "q"), (None, (1, 2), (1,))):
            self.assertKeeps(UnknownName, "word", table, THREE.with_row, table, row)
            self.assertKeeps(UnknownName, "word", table, THREE.without_row, table, row)
