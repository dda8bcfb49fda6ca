"""Coverings, fillings and degrees: how many rows a change of a table touches at a view at worst."""

from touchrows.base.powers import power, root
from touchrows.base.ratios import Ratio
from touchrows.base.words import is_count
from touchrows.data.stores import MAX_ROWS
from touchrows.errors import InvalidOperation, InvalidWeights
from touchrows.weigh.checks import check_place, check_plan
from touchrows.weigh.pairs import common_bottom, is_weights, is_weights_of, ratios_of
from touchrows.weigh.programs import Program, price_of, worth_of

# What weights of a bound can have below the slash, taken together.
MAX_COMMON_BOTTOM = 24


def _program(plan, view, table):
    """What the other tables of a view cover for a change of a table: its open columns."""
    check_place(plan, view, table)
    others = [name for name in view if name != table]
    return Program(plan.question, others, plan.open_columns(view, table))


def degree(plan, view, table):
    """The least price of a covering, which is the greatest worth of a filling."""
    return _program(plan, view, table).least()


def covering(plan, view, table):
    """A covering of the least price, with weights up to 1 and small denominators."""
    return _program(plan, view, table).covering()


def filling(plan, view, table):
    """A filling of the greatest worth."""
    return _program(plan, view, table).filling()


def is_covering(plan, view, table, value):
    """Whether the value is a covering, of whatever price."""
    return _program(plan, view, table).is_covering(value)


def is_filling(plan, view, table, value):
    """Whether the value is a filling, of whatever worth."""
    return _program(plan, view, table).is_filling(value)


def is_least_covering(plan, view, table, value):
    """Whether the value is a covering of the least price."""
    return _program(plan, view, table).is_least_covering(value)


def is_greatest_filling(plan, view, table, value):
    """Whether the value is a filling of the greatest worth."""
    return _program(plan, view, table).is_greatest_filling(value)


def price(plan, weights):
    """The sum of the products of weights of tables and of their sizes."""
    check_plan(plan)
    if not is_weights_of(plan.question, weights):
        raise InvalidWeights("a price is that of weights of tables")
    return price_of(weights, plan.question.sizes)


def worth(weights):
    """The sum of weights."""
    if not is_weights(weights):
        raise InvalidWeights("a worth is that of weights")
    return worth_of(weights)


def bound(weights, counts):
    """The greatest integer whose power is at most the product of the powers of the counts, by weights of names."""
    if not is_weights(weights) or not _is_small(ratios_of(weights)):
        raise InvalidWeights("a bound is found by weights up to 1, with a common denominator of at most 24")
    if not _is_counts(counts, weights):
        raise InvalidOperation("counts are numbers of rows, for at least the names in the weights")
    ratios = ratios_of(weights)
    common = common_bottom(list(ratios.values()))
    product = 1
    for name, ratio in ratios.items():
        product = product * power(counts[name], ratio.top * (common // ratio.bottom))
    return root(product, common)


def _is_small(ratios):
    """Whether no ratio is above 1, and their least common denominator is small."""
    if any([Ratio(1, 1).is_less(ratio) for ratio in ratios.values()]):
        return False
    return common_bottom(list(ratios.values())) <= MAX_COMMON_BOTTOM


def _is_counts(value, weights):
    """Whether the value is a dict from at least the names in the weights to numbers of rows."""
    if not isinstance(value, dict) or not all([name in value for name, _ in weights]):
        return False
    return all([is_count(one) and one <= MAX_ROWS for one in value.values()])
