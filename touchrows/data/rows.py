"""Rows: tuples of integers, one for each of some ascending columns."""

from touchrows.base.figures import integer_in
from touchrows.base.words import is_integer


def is_row(value, many):
    """Whether the value is a row of so many columns."""
    return isinstance(value, tuple) and len(value) == many and all([is_integer(one) for one in value])


def row_text(row):
    """The text of a row: its values, with single blanks between them."""
    return " ".join([str(one) for one in row])


def row_in(words):
    """The row of which these are the texts of the values; None if one of them is no such text."""
    row = tuple([integer_in(word) for word in words])
    return None if None in row else row


def places_of(columns, wanted):
    """Where the wanted columns stand among the columns."""
    return tuple([columns.index(column) for column in wanted])


def picked(row, places):
    """The row of the values at these places."""
    return tuple([row[at] for at in places])


def all_rows(columns, counts):
    """The ascending tuple of all rows whose values at a column are the first integers from 0, as many as a dict says;
    a column that is not in it has the value 0 alone.
    """
    rows = [()]
    for column in columns:
        values = list(range(counts.get(column, 1)))
        rows = [(*row, value) for row in rows for value in values]
    return tuple(rows)
