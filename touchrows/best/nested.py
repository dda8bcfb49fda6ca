"""Constant plans, in which each change touches at most one row at each view, and crossings, which leave none."""

from touchrows.errors import InvalidOperation
from touchrows.plan.plans import Plan
from touchrows.weigh.checks import check_plan, check_question


def is_constant(plan):
    """Whether no view of a plan has an open column for any of its tables."""
    check_plan(plan)
    return not any([plan.open_columns(view, table) for view in plan.views for table in view])


def constant_plan(question):
    """A constant plan for a question; None if there is none."""
    if not has_constant_plan(question):
        return None
    # Without a crossing these views go together, and a column that is kept by one of them is a column of each table
    # of the view around it.
    views = {question.tables_with(column): True for column in question.columns}
    return Plan(question, tuple(views))


def has_constant_plan(question):
    """Whether there is a constant plan for a question."""
    return crossing(question) is None


def crossing(question):
    """A crossing of a question; None if there is none."""
    for told in each_crossing(question):
        return told
    return None


def is_crossing(question, value):
    """Whether the value is a crossing of a question."""
    return value in list(each_crossing(question))


def each_crossing(question):
    """A generator of all crossings of a question, ascending: those of columns, then those of groups."""
    check_question(question)
    columns = question.columns
    for at, first in enumerate(columns):
        for second in columns[at + 1:]:
            for tables in _crossed(question, first, second):
                yield ("columns", (first, second), tables)
    for column, table in _left_out(question):
        yield ("group", column, table)


def _crossed(question, first, second):
    """The ascending list of triples of tables: one with the first of two columns alone, one with both, and one with
    the second one alone.
    """
    ones, others = question.tables_with(first), question.tables_with(second)
    both = [table for table in ones if table in others]
    before = [table for table in ones if table not in others]
    behind = [table for table in others if table not in ones]
    return [(low, middle, high) for low in before for middle in both for high in behind]


def _left_out(question):
    """The ascending list of pairs of a group column and of a table that does not have it."""
    # One table alone has all group columns.
    tables = question.tables
    return [(column, table) for column in question.groups for table in tables if column not in tables[table]]


def crossing_degree(plan, told):
    """A view of a plan and a table of it that has an open column there because of a crossing."""
    _check_crossing(plan, told)
    return _places(plan, told)[0]


def is_crossing_degree(plan, told, value):
    """Whether the value is a view of a plan and a table of it that has an open column there because of a crossing."""
    _check_crossing(plan, told)
    return value in _places(plan, told)


def _check_crossing(plan, told):
    """Raise the error of what is no plan, or no crossing of its question."""
    check_plan(plan)
    if not is_crossing(plan.question, told):
        raise InvalidOperation("not a crossing of the question of the plan")


def _places(plan, told):
    """The list of all pairs of a view and a table that a crossing leaves with an open column.

    There always is one. A group column is met at the root, but not by all tables. Of columns that cross, the view that
    first joins the table with both to one of the others meets the column that this other table does not have.
    """
    word, crossed, left = told
    columns = crossed if word == "columns" else (crossed,)
    tables = (left[0], left[2]) if word == "columns" else (left,)
    return [
        (view, table) for view in plan.views for table in view
        if table in tables and any([column in columns for column in plan.open_columns(view, table)])
    ]
