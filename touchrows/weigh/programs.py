"""Coverings and fillings: weights of tables by which columns are covered, weights of columns that the tables hold."""

from touchrows.base.ratios import Ratio, sum_of
from touchrows.weigh.pairs import common_bottom, is_weights_of, ratios_of, total_of_names, weights_of
from touchrows.weigh.simplex import solved


class Program:
    """Some tables of a question with their sizes, and some columns, each of which stands in one of the tables.

    A covering is weights of the tables that add up to at least 1 for each column. A filling is weights of the columns
    that add up to at most its size for each table. The least price of the one is the greatest worth of the other.
    """

    def __init__(self, question, tables, wanted):
        all_tables, all_sizes = question.tables, question.sizes
        self._wanted = wanted
        self._inside = {name: [column for column in wanted if column in all_tables[name]] for name in tables}
        self._sizes = {name: all_sizes[name] for name in tables}

    def is_covering(self, value):
        """Whether the value is a covering, of whatever price."""
        if not is_weights_of(self._inside, value):
            return False
        for column in self._wanted:
            tables = [name for name in self._inside if column in self._inside[name]]
            if total_of_names(value, tables).is_less(Ratio(1, 1)):
                return False
        return True

    def is_filling(self, value):
        """Whether the value is a filling, of whatever worth."""
        if not is_weights_of(self._wanted, value):
            return False
        return not any([
            self._sizes[name].is_less(total_of_names(value, columns)) for name, columns in self._inside.items()
        ])

    def is_least_covering(self, value):
        """Whether the value is a covering of the least price."""
        return self.is_covering(value) and price_of(value, self._sizes) == self.least()

    def is_greatest_filling(self, value):
        """Whether the value is a filling of the greatest worth."""
        return self.is_filling(value) and worth_of(value) == self.least()

    def least(self):
        """The least price, which is also the greatest worth."""
        return worth_of(self.filling())

    def covering(self):
        """A covering of the least price."""
        _, prices, scale = self._solved()
        return weights_of({name: Ratio(one, scale) for name, one in zip(self._inside, prices)})

    def filling(self):
        """A filling of the greatest worth."""
        amounts, _, scale = self._solved()
        bottom = scale * common_bottom(list(self._sizes.values()))
        return weights_of({column: Ratio(one, bottom) for column, one in zip(self._wanted, amounts)})

    def _solved(self):
        """The amounts of the columns, the prices of the tables, and the denominator; sizes are made whole numbers."""
        common = common_bottom(list(self._sizes.values()))
        limits = [size.top * (common // size.bottom) for size in self._sizes.values()]
        rows = [[1 if column in columns else 0 for column in self._wanted] for columns in self._inside.values()]
        return solved(rows, limits, len(self._wanted))


def price_of(weights, sizes):
    """The sum of the products of weights of tables and of their sizes."""
    return sum_of(tuple([ratio * sizes[name] for name, ratio in ratios_of(weights).items()]))


def worth_of(weights):
    """The sum of weights."""
    return sum_of(tuple(list(ratios_of(weights).values())))
