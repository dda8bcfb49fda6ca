"""How far stores grow by weights of columns: as many values at a column as a number to the power of its weight."""

from touchrows.base.powers import power
from touchrows.data.rows import all_rows
from touchrows.errors import TooMany
from touchrows.weigh.pairs import common_bottom, ratios_of


class Growth:
    """The values that stand at the columns of a question, by weights of columns and a number.

    By the least common denominator of the weights and of the sizes of all tables, all exponents are integers.
    """

    def __init__(self, question, weights, number):
        ratios = ratios_of(weights)
        common = common_of(question, weights)
        self._tables = question.tables
        self._number = number
        self._exponents = {name: ratio.top * (common // ratio.bottom) for name, ratio in ratios.items()}

    def many_rows(self, table, limit):
        """How many rows of the values a table has; more than a limit are refused."""
        exponent = sum([self._exponents.get(column, 0) for column in self._tables[table]])
        # The exponent can be too great for the power to be written out at all.
        if self._number > 1 and exponent > limit.bit_length():
            raise TooMany(limit)
        many = power(self._number, exponent)
        if many > limit:
            raise TooMany(limit)
        return many

    def rows_of(self, table):
        """The ascending tuple of all rows of the values in a table."""
        columns = self._tables[table]
        counts = {column: power(self._number, self._exponents.get(column, 0)) for column in columns}
        return all_rows(columns, counts)


def common_of(question, weights):
    """The least common denominator of weights and of the sizes of all tables."""
    return common_bottom(list(ratios_of(weights).values()) + list(question.sizes.values()))
