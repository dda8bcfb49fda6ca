"""Stores: the rows that stand in the tables of a question."""

from touchrows.base.powers import power
from touchrows.base.questions import Question
from touchrows.base.views import is_view
from touchrows.base.words import is_integer
from touchrows.data.joins import Part, joined
from touchrows.data.rows import is_row, picked, places_of
from touchrows.errors import (
    InvalidNumber, InvalidQuestion, InvalidRow, InvalidStore, InvalidView, RowAbsent, RowThere, TooMany, UnknownName,
)

MAX_ROWS = 2000
MAX_READINGS = 100000


class Store:
    """The rows of all tables of a question; it never changes."""

    def __init__(self, question, rows):
        if not isinstance(question, Question):
            raise InvalidQuestion("a store is for a question")
        if not _is_rows(rows, question):
            raise InvalidStore("there is no store with such rows")
        self._question = question
        self._rows = {name: tuple(sorted(rows.get(name, ()))) for name in question.names}
        self._pairs = _pairs_of(self._rows)

    @property
    def question(self):
        return self._question

    @property
    def rows(self):
        return dict(self._rows)

    def has_row(self, table, value):
        """Whether the value is a row of a table that stands in the store."""
        if table not in self._question:
            raise UnknownName(table)
        return (table, value) in self

    def with_row(self, table, row):
        """The store with one row more."""
        self._check_row(table, row)
        rows = self._rows[table]
        if _stands_in(rows, row):
            raise RowThere(row)
        if len(rows) == MAX_ROWS:
            raise TooMany(MAX_ROWS)
        at = _place_in(rows, row)
        return _changed(self, table, (*rows[:at], row, *rows[at:]))

    def without_row(self, table, row):
        """The store with one row less."""
        self._check_row(table, row)
        rows = self._rows[table]
        if not _stands_in(rows, row):
            raise RowAbsent(row)
        at = _place_in(rows, row)
        return _changed(self, table, (*rows[:at], *rows[at + 1:]))

    def _check_row(self, table, row):
        """Raise the error of a table that is not there, or of a row that is none of the table."""
        if table not in self._question:
            raise UnknownName(table)
        if not is_row_of(self._question, table, row):
            raise InvalidRow("a row of a table has an integer for each of its columns")

    def fits(self, number):
        """Whether no table has more rows than the number to the power of its size."""
        if not is_integer(number) or number < 1:
            raise InvalidNumber(number)
        sizes = self._question.sizes
        return all([
            power(len(rows), sizes[name].bottom) <= power(number, sizes[name].top) for name, rows in self._rows.items()
        ])

    def __add__(self, other):
        if not isinstance(other, tuple) or len(other) != 2:
            return NotImplemented
        return self.with_row(other[0], other[1])

    def __sub__(self, other):
        if not isinstance(other, tuple) or len(other) != 2:
            return NotImplemented
        return self.without_row(other[0], other[1])

    def __contains__(self, value):
        if not isinstance(value, tuple) or len(value) != 2 or value[0] not in self._question:
            return False
        return is_row_of(self._question, value[0], value[1]) and _stands_in(self._rows[value[0]], value[1])

    def __len__(self):
        return len(self._pairs)

    def __iter__(self):
        return iter(self._pairs)

    def __eq__(self, other):
        return isinstance(other, Store) and self._question == other._question and self._rows == other._rows

    def __str__(self):
        return f"store with {len(self._pairs)} rows in {len(self._rows)} tables"


def is_row_of(question, table, value):
    """Whether the value is a row of the columns of a table of a question."""
    return is_row(value, len(question.tables[table]))


def _is_rows(value, question):
    """Whether the value can be the rows of a store for a question."""
    if not isinstance(value, dict):
        return False
    for table, rows in value.items():
        if table not in question or not isinstance(rows, tuple) or len(rows) > MAX_ROWS:
            return False
        if not all([is_row_of(question, table, row) for row in rows]) or len(set(list(rows))) < len(rows):
            return False
    return True


def _pairs_of(rows):
    """The ascending tuple of all pairs of a table and a row of it."""
    return tuple([(table, row) for table, listed in rows.items() for row in listed])


def _changed(store, table, listed):
    """The store with other rows, which ascend, in one table."""
    # The rows have been looked at already, so they go around the check of the class.
    rows = store.rows
    made = Store(store.question, {})
    made._rows = {**rows, table: listed}
    made._pairs = _pairs_of(made._rows)
    return made


def _place_in(rows, row):
    """How many of the ascending rows stand ahead of a row."""
    low, high = 0, len(rows)
    while low < high:
        middle = (low + high) // 2
        if rows[middle] < row:
            low = middle + 1
        else:
            high = middle
    return low


def _stands_in(rows, row):
    """Whether a row is one of the ascending rows."""
    at = _place_in(rows, row)
    return at < len(rows) and rows[at] == row


def parts_of(store, names):
    """The list of the parts that some tables of a store are."""
    tables, rows = store.question.tables, store.rows
    return [Part(tables[name], list(rows[name])) for name in names]


def readings(store, *, among=None):
    """A generator of the readings of some tables of a store, or of all, ascending."""
    if not isinstance(store, Store):
        raise InvalidStore("readings are those of a store")
    names = store.question.names if among is None else among
    if not is_view(store.question, names):
        raise InvalidView("readings are those of some tables")
    parts = parts_of(store, names)
    told = 0
    for row in joined(parts):
        if told == MAX_READINGS:
            raise TooMany(MAX_READINGS)
        told += 1
        yield row


def count_readings(store):
    """The number of readings of all tables."""
    return len(list(readings(store)))


def answer_of(store):
    """The dict from the rows of the group columns to the numbers of readings with these values."""
    if not isinstance(store, Store):
        raise InvalidStore("an answer is that of a store")
    question = store.question
    places = places_of(question.columns, question.groups)
    counts = {}
    for row in readings(store):
        group = picked(row, places)
        counts[group] = counts.get(group, 0) + 1
    return {group: counts[group] for group in sorted(counts)}
