"""Plans for puts alone, what is saved without takes, and changes that save nothing."""

from touchrows.base.words import is_count
from touchrows.best.least import check_few_plans, least_of
from touchrows.data.changes import MAX_CHANGES
from touchrows.errors import InvalidNumber
from touchrows.plan.plans import Plan
from touchrows.plan.shapes import each_plan
from touchrows.weigh.checks import check_place
from touchrows.weigh.totals import plan_total, total_degree
from touchrows.weigh.weights import degree
from touchrows.weigh.worst import check_growth, spread, worst_row, worst_store


def least_total(question):
    """The least total degree of a plan for a question."""
    check_few_plans(question)
    return least_of([plan_total(plan) for plan in each_plan(question)])


def least_total_plan(question):
    """A plan for a question that has the least total degree."""
    return list(each_least_total_plan(question))[0]


def is_least_total_plan(question, value):
    """Whether the value is a plan for a question that has the least total degree."""
    least = least_total(question)
    return isinstance(value, Plan) and value.question == question and plan_total(value) == least


def each_least_total_plan(question):
    """A generator of all plans for a question with the least total degree, in ascending order of their views."""
    least = least_total(question)
    for plan in each_plan(question):
        if plan_total(plan) == least:
            yield plan


def saving(plan, view, table):
    """How much less the puts of a table touch at a view, all together, than as many changes that touch most."""
    check_place(plan, view, table)
    return plan.question.sizes[table] + degree(plan, view, table) - total_degree(plan, view, table)


def repeated_changes(plan, view, table, weights, number, many):
    """The worst store for a number, and the history of so many changes that put and take the worst row in turn."""
    spread(plan, view, table, weights)
    check_growth(number)
    if not is_count(many) or many > MAX_CHANGES:
        raise InvalidNumber(many)
    store, row = worst_store(plan, view, table, weights, number), worst_row(plan, table)
    words = ["take" if at % 2 else "put" for at in range(many)]
    return store, tuple([(word, table, row) for word in words])
