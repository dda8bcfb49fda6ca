"""Never more: views, and plans, at which a change touches at most as many rows as at others, in every store."""

from touchrows.data.rows import all_rows
from touchrows.data.stores import Store, is_row_of
from touchrows.errors import InvalidPlan, InvalidRow, InvalidStore, UnknownName
from touchrows.weigh.checks import check_place, check_plan, check_table, check_view
from touchrows.weigh.touches import is_change, touched_at
from touchrows.weigh.worst import worst_row


def _check_other(plan, other):
    """Raise the error of what is no plan for the question of a plan."""
    check_plan(other)
    if other.question != plan.question:
        raise InvalidPlan("both plans are for one question")


def _check_views(plan, view, other, above, table):
    """Raise the error of what are no two views of plans for one question, with a table in both."""
    check_view(plan, view)
    _check_other(plan, other)
    check_view(other, above)
    if table not in view or table not in above:
        raise UnknownName(table)


def _check_plans(plan, other, table):
    """Raise the error of what are no two plans for one question, with a table."""
    check_plan(plan)
    _check_other(plan, other)
    check_table(plan.question, table)


def _check_store(store, plan):
    """Raise the error of what is no store, or no plan for its question."""
    if not isinstance(store, Store):
        raise InvalidStore("not a store")
    check_plan(plan)
    if store.question != plan.question:
        raise InvalidPlan("the plan is for the question of the store")


def _check_row(plan, table, row):
    """Raise the error of what is no row of a table."""
    if not is_row_of(plan.question, table, row):
        raise InvalidRow("a row of a table has an integer for each of its columns")


def touched_in(store, plan, view, table, row):
    """How many rows the change of a row of a table touches at a view, in a store."""
    _check_store(store, plan)
    check_place(plan, view, table)
    _check_row(plan, table, row)
    return touched_at(store, plan, view, table, row)


def is_never_more(plan, view, other, above, table):
    """Whether a change of a table touches at one view at most as many rows as at another one, in every store."""
    _check_views(plan, view, other, above, table)
    return _is_never_more(plan, view, other, above, table)


def _is_never_more(plan, view, other, above, table):
    """As above, for what has been checked."""
    return not _missing(plan, view, other, above, table) and all([name in view for name in above])


def _missing(plan, view, other, above, table):
    """The open columns of one view that are no met columns of another one."""
    met = other.met(above)
    return [column for column in plan.open_columns(view, table) if column not in met]


def parting_store(plan, view, other, above, table):
    """A store and a row whose change touches more rows at one view than at another one; None if there are none."""
    _check_views(plan, view, other, above, table)
    if _is_never_more(plan, view, other, above, table):
        return None
    return _doubled(plan, view, table, _missing(plan, view, other, above, table)[:1])


def _doubled(plan, view, table, columns):
    """The pair of a store with two values at some columns in the other tables of a view, and of a row of the table.

    Its change touches at the view as many rows as there are such values, and at a view of another plan only as many as
    there are at its met columns, or none if that view has more tables.
    """
    tables = plan.question.tables
    counts = {column: 2 for column in columns}
    rows = {name: all_rows(tables[name], counts) for name in view if name != table}
    return Store(plan.question, rows), worst_row(plan, table)


def is_parting(plan, view, other, above, table, value):
    """Whether the value is a store and a row whose change touches more rows at one view than at another one."""
    _check_views(plan, view, other, above, table)
    if not _is_pair(plan, table, value):
        return False
    store, row = value
    return touched_at(store, plan, view, table, row) > touched_at(store, other, above, table, row)


def _is_pair(plan, table, value):
    """Whether the value is a pair of a store for the question of a plan, and of a row of a table."""
    return isinstance(value, tuple) and len(value) == 2 and is_change(plan.question, table, value[0], value[1])


def peak_in(store, plan, table, row):
    """The greatest number of rows that the change of a row of a table touches at a view, in a store."""
    _check_store(store, plan)
    check_table(plan.question, table)
    _check_row(plan, table, row)
    return _peak_at(store, plan, table, row)


def _peak_at(store, plan, table, row):
    """As above, for what has been checked."""
    return max([touched_at(store, plan, view, table, row) for view in plan.path(table)])


def is_no_dearer(plan, other, table):
    """Whether the peak of each change of a table in one plan is at most that in another one, in every store."""
    _check_plans(plan, other, table)
    return not _dearer_views(plan, other, table)


def _dearer_views(plan, other, table):
    """The views of one plan that are not never more than a view of the other plan."""
    path = other.path(table)
    return [
        view for view in plan.path(table)
        if not any([_is_never_more(plan, view, other, above, table) for above in path])
    ]


def dearer_store(plan, other, table):
    """A store and a row whose change has a greater peak in one plan than in another one; None if there are none."""
    _check_plans(plan, other, table)
    views = _dearer_views(plan, other, table)
    return _doubled(plan, views[0], table, plan.open_columns(views[0], table)) if views else None


def is_dearer(plan, other, table, value):
    """Whether the value is a store and a row whose change has a greater peak in one plan than in another one."""
    _check_plans(plan, other, table)
    if not _is_pair(plan, table, value):
        return False
    store, row = value
    return _peak_at(store, plan, table, row) > _peak_at(store, other, table, row)
