"""Rooms of views, and the degrees of whole plans."""

from touchrows.base.ratios import greatest_of
from touchrows.weigh.checks import check_plan, check_view
from touchrows.weigh.programs import Program
from touchrows.weigh.weights import degree


def _program(plan, view):
    """What the tables of a view cover for its contents: its kept columns."""
    check_view(plan, view)
    return Program(plan.question, view, plan.kept(view))


def room(plan, view):
    """The least price of a room covering, which is the greatest worth of a room filling."""
    return _program(plan, view).least()


def room_covering(plan, view):
    """A room covering of the least price, with weights up to 1 and small denominators."""
    return _program(plan, view).covering()


def room_filling(plan, view):
    """A room filling of the greatest worth."""
    return _program(plan, view).filling()


def is_room_covering(plan, view, value):
    """Whether the value is a room covering of the least price."""
    return _program(plan, view).is_least_covering(value)


def is_room_filling(plan, view, value):
    """Whether the value is a room filling of the greatest worth."""
    return _program(plan, view).is_greatest_filling(value)


def table_degree(plan, table):
    """The greatest degree of a table over all views of its path."""
    check_plan(plan)
    return greatest_of(tuple([degree(plan, view, table) for view in plan.path(table)]))


def degrees(plan):
    """The dict from all tables to their degrees."""
    check_plan(plan)
    return {table: table_degree(plan, table) for table in plan.root}


def plan_degree(plan):
    """The greatest degree of a table."""
    return greatest_of(tuple(list(degrees(plan).values())))


def plan_room(plan):
    """The greatest room of a view."""
    check_plan(plan)
    return greatest_of(tuple([room(plan, view) for view in plan.views]))
