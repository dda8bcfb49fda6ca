"""The errors that functions about questions, plans and views have in common."""

from touchrows.base.questions import Question
from touchrows.errors import InvalidPlan, InvalidQuestion, InvalidView, UnknownName
from touchrows.plan.plans import Plan


def check_question(question):
    """Raise the error of what is no question."""
    if not isinstance(question, Question):
        raise InvalidQuestion("not a question")


def check_plan(plan):
    """Raise the error of what is no plan."""
    if not isinstance(plan, Plan):
        raise InvalidPlan("not a plan")


def check_table(question, table):
    """Raise the error of what is no table of a question."""
    if table not in question:
        raise UnknownName(table)


def check_view(plan, view):
    """Raise the error of what is no plan, or no view of it."""
    check_plan(plan)
    if view not in plan:
        raise InvalidView("not a view of the plan")


def check_place(plan, view, table):
    """Raise the error of what is no plan, no view of it, or no table of the view."""
    check_view(plan, view)
    if table not in view:
        raise UnknownName(table)
