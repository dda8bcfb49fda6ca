"""The errors that the functions about views of plans have in common."""

from touchrows.errors import InvalidPlan, InvalidView, UnknownName
from touchrows.plan.plans import Plan


def check_plan(plan):
    """Raise the error of what is no plan."""
    if not isinstance(plan, Plan):
        raise InvalidPlan("not a plan")


def check_view(plan, view):
    """Raise the error of what is no plan, or no view of it."""
    check_plan(plan)
    if view not in plan:
        raise InvalidView("not a view of the plan")


def check_place(plan, view, table):
    """Raise the error of what is no plan, no view of it, or no table of the view."""
    check_view(plan, view)
    if table not in view:
        raise UnknownName(table)
