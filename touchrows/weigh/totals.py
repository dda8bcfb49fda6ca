"""Puts alone: how many rows the puts of a table touch at a view at worst, all of them together."""

from touchrows.base.ratios import greatest_of
from touchrows.data.changes import MAX_CHANGES
from touchrows.data.stores import Store
from touchrows.errors import InvalidOperation, InvalidWeights, TooMany
from touchrows.keep.dear import is_history, run
from touchrows.weigh.checks import check_place, check_plan
from touchrows.weigh.growth import Growth
from touchrows.weigh.programs import Program
from touchrows.weigh.worst import check_growth


def total_columns(plan, view, table):
    """The ascending tuple of the met columns of a view, and of the columns of a table."""
    check_place(plan, view, table)
    return tuple(sorted(set(plan.met(view) + plan.question.tables[table])))


def _program(plan, view, table):
    """What the tables of a view cover for all puts of a table: its total columns."""
    columns = total_columns(plan, view, table)
    return Program(plan.question, view, columns)


def total_degree(plan, view, table):
    """The least price of a total covering, which is the greatest worth of a total filling."""
    return _program(plan, view, table).least()


def total_covering(plan, view, table):
    """A total covering of the least price, with weights up to 1 and small denominators."""
    return _program(plan, view, table).covering()


def total_filling(plan, view, table):
    """A total filling of the greatest worth."""
    return _program(plan, view, table).filling()


def is_total_covering(plan, view, table, value):
    """Whether the value is a total covering, of whatever price."""
    return _program(plan, view, table).is_covering(value)


def is_total_filling(plan, view, table, value):
    """Whether the value is a total filling, of whatever worth."""
    return _program(plan, view, table).is_filling(value)


def table_total(plan, table):
    """The greatest total degree of a table over all views of its path."""
    check_plan(plan)
    return greatest_of(tuple([total_degree(plan, view, table) for view in plan.path(table)]))


def plan_total(plan):
    """The greatest total degree of a table."""
    check_plan(plan)
    return greatest_of(tuple([table_total(plan, table) for table in plan.root]))


def growing_history(plan, view, table, weights, number):
    """The puts of all rows that a total filling leads to: first those of the other tables, then those of the table."""
    if not is_total_filling(plan, view, table, weights):
        raise InvalidWeights("a history grows by a total filling")
    check_growth(number)
    growth = Growth(plan.question, weights, number)
    names = [name for name in view if name != table] + [table]
    if sum([growth.many_rows(name, MAX_CHANGES) for name in names]) > MAX_CHANGES:
        raise TooMany(MAX_CHANGES)
    return tuple([("put", name, row) for name in names for row in growth.rows_of(name)])


def touched_by_puts(plan, history, view, table):
    """How many rows the puts of a table touch at a view, all together, in a history of puts alone."""
    check_plan(plan)
    store = Store(plan.question, {})
    if not is_history(store, history) or not all([change[0] == "put" for change in history]):
        raise InvalidOperation("not a history of puts alone that begins with the empty store")
    check_place(plan, view, table)
    _, touched = run(plan, store, history)
    at = plan.path(table).index(view)
    return sum([numbers[at] for change, numbers in zip(history, touched) if change[1] == table])
