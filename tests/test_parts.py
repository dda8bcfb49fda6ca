"""What stores and keepers are made of: powers, rows, views as tuples, and joins."""

import itertools
import unittest

from tests.force import many
from tests.samples import LONGEST, TRI, Strict
from touchrows.base.powers import power
from touchrows.base.views import columns_among, is_view
from touchrows.data.joins import Part, count_joined, joined
from touchrows.data.rows import is_row, picked, places_of


class Powers(Strict, unittest.TestCase):
    def test_as_python_does(self):
        for base in (0, 1, 2, 7, 2000, LONGEST):
            for exponent in (*range(20), 59, 60, 64, 540):
                self.assertEqual(power(base, exponent), base ** exponent)


class Rows(Strict, unittest.TestCase):
    def test_rows(self):
        self.assertSame([is_row((1, -2), 2), is_row((1, -2), 3), is_row((), 0), is_row([1], 1), is_row((True,), 1)],
                        [True, False, True, False, False])

    def test_places(self):
        self.assertSame(places_of(("a", "c", "d"), ("c", "d")), (1, 2))
        self.assertSame(picked((5, 6, 7), (1, 2)), (6, 7))
        self.assertSame(picked((5, 6, 7), ()), ())

    def test_views(self):
        self.assertSame([is_view(TRI, ("r", "t")), is_view(TRI, ()), is_view(TRI, ("t", "r")), is_view(TRI, "r")],
                        [True, False, False, False])
        self.assertSame([columns_among(TRI, ("r", "s")), columns_among(TRI, ())], [("a", "b", "c"), ()])


class Joins(Strict, unittest.TestCase):
    def test_by_force(self):
        for draw in many(400, "joins"):
            columns = "abcd"[:draw.randint(1, 4)]
            parts = []
            for _ in range(draw.randint(1, 4)):
                header = tuple(sorted(draw.sample(columns, draw.randint(0, len(columns)))))
                values = draw.randint(1, 3)
                rows = {tuple(draw.randrange(values) for _ in header) for _ in range(draw.randint(0, 6))}
                parts.append((header, sorted(rows, key=lambda row: draw.random())))
            names = sorted({column for header, _ in parts for column in header})
            wanted = [
                row for row in itertools.product(range(3), repeat=len(names))
                if all(tuple(row[names.index(column)] for column in header) in rows for header, rows in parts)
            ]
            self.assertSame(list(joined([Part(header, rows) for header, rows in parts])), wanted)
            for some in itertools.chain.from_iterable(itertools.combinations(names, size) for size in range(5)):
                told = {tuple(row[names.index(column)] for column in some) for row in wanted}
                self.assertSame(count_joined([Part(header, rows) for header, rows in parts], some), len(told))

    def test_without_columns(self):
        self.assertSame(list(joined([])), [()])
        self.assertSame(list(joined([Part((), [()])])), [()])
        self.assertSame(list(joined([Part((), []), Part(("a",), [(1,)])])), [])
        self.assertSame(list(joined([Part((), [()]), Part(("a",), [(2,), (1,)])])), [(1,), (2,)])

    def test_rings_without_a_row(self):
        # Each two of the parts agree on their common column, but there is no ring.
        pairs = [(("a", "b"), [(0, 0), (1, 1)]), (("b", "c"), [(0, 0), (1, 1)]), (("a", "c"), [(0, 1), (1, 0)])]
        for wanted in ((), ("a",), ("b", "c"), ("a", "b", "c")):
            self.assertSame(count_joined([Part(header, rows) for header, rows in pairs], wanted), 0)
        self.assertSame(list(joined([Part(header, rows) for header, rows in pairs])), [])

    def test_great_counts(self):
        column = [(number,) for number in range(2000)]
        self.assertSame(count_joined([Part((name,), column) for name in "abcdef"], tuple("abcdef")), 2000 ** 6)
        self.assertSame(count_joined([Part((name,), column) for name in "abcdef"], ("b", "e")), 2000 ** 2)
        pairs = [(number, number % 2) for number in range(2000)]
        self.assertSame(count_joined([Part((name, "z"), pairs) for name in "abcdef"], tuple("abcdefz")), 2 * 1000 ** 6)
        self.assertSame(count_joined([], ()), 1)

    def test_parts_stay(self):
        rows = [(2, 1), (1, 1)]
        part = Part(("a", "b"), rows)
        self.assertSame(list(joined([part, Part(("b",), [(1,), (5,)])])), [(1, 1), (2, 1)])
        self.assertSame((part.header, rows), (("a", "b"), [(2, 1), (1, 1)]))
        self.assertSame(part.by(("b",)), {(1,): [(2, 1), (1, 1)]})
