"""Stores that touch most: by a filling, a store of every size with a change that touches as many rows as it can."""

from touchrows.base.powers import power
from touchrows.base.words import is_integer
from touchrows.data.stores import MAX_ROWS, Store
from touchrows.errors import InvalidNumber, InvalidWeights
from touchrows.weigh.checks import check_place, check_plan, check_table
from touchrows.weigh.growth import Growth, common_of
from touchrows.weigh.programs import worth_of
from touchrows.weigh.touches import is_change, touched_at
from touchrows.weigh.weights import degree, is_filling, is_greatest_filling

MAX_GROWTH = 1000


def spread(plan, view, table, weights):
    """The least common denominator of a filling and of the sizes of all tables."""
    if not is_filling(plan, view, table, weights):
        raise InvalidWeights("a store is spread out by a filling")
    return common_of(plan.question, weights)


def check_growth(number):
    """Raise the error of what is no number that a store can grow by."""
    if not is_integer(number) or not 1 <= number <= MAX_GROWTH:
        raise InvalidNumber(number)


def worst_store(plan, view, table, weights, number):
    """The store in which each open column has as many values as its weight says, and tables all rows of these."""
    spread(plan, view, table, weights)
    check_growth(number)
    growth = Growth(plan.question, weights, number)
    others = [name for name in view if name != table]
    for name in others:
        growth.many_rows(name, MAX_ROWS)
    return Store(plan.question, {name: growth.rows_of(name) for name in others})


def worst_touched(plan, view, table, weights, number):
    """How many rows the put of the worst row touches, however many."""
    common = spread(plan, view, table, weights)
    check_growth(number)
    total = worth_of(weights)
    return power(number, total.top * (common // total.bottom))


def worst_row(plan, table):
    """The row of a table of which all values are 0."""
    check_plan(plan)
    check_table(plan.question, table)
    return tuple([0 for _ in plan.question.tables[table]])


def witness(plan, view, table, weights, number):
    """A number that the worst store fits, this store, and the worst row."""
    if not is_greatest_filling(plan, view, table, weights):
        raise InvalidWeights("a witness is made by a filling of the greatest worth")
    store = worst_store(plan, view, table, weights, number)
    return power(number, spread(plan, view, table, weights)), store, worst_row(plan, table)


def is_witness(plan, view, table, value):
    """Whether the value is a witness, whatever its store is like."""
    check_place(plan, view, table)
    if not isinstance(value, tuple) or len(value) != 3:
        return False
    number, store, row = value
    if not is_integer(number) or number < 1 or not is_change(plan.question, table, store, row):
        return False
    touched = touched_at(store, plan, view, table, row)
    return store.fits(number) and _is_power(touched, number, degree(plan, view, table))


def _is_power(touched, number, ratio):
    """Whether so many rows are the number to the power of a ratio of at least 0."""
    if number == 1:
        return touched == 1
    # As the ratio is in lowest terms, there is an integer of which the number is the power with the bottom of the
    # ratio as its exponent, and the rows the power with the top. So neither of these can be great.
    if ratio.bottom > number.bit_length() or ratio.top > touched.bit_length():
        return False
    return power(touched, ratio.bottom) == power(number, ratio.top)
