"""All plans for a question, in the ascending order of their views."""

from touchrows.base.questions import Question
from touchrows.base.words import is_count
from touchrows.errors import InvalidNumber, InvalidPlan, InvalidQuestion
from touchrows.plan.plans import Plan, go_together

# How many plans there are for so many tables: in how many ways a set can be parted again and again.
PLANS = (0, 1, 1, 4, 26, 236, 2752)


def _inner_views(names):
    """The ascending list of all views that are neither those of single tables nor the root."""
    views = [()]
    for name in names:
        views.extend([(*view, name) for view in list(views)])
    return sorted([view for view in views if 1 < len(view) < len(names)])


def _choices(names):
    """A generator of all tuples of inner views that go together, in the order of their plans."""
    left = _inner_views(names)
    beside = {view: {other: True for other in left if go_together(view, other)} for view in left}
    yield from _grown((), left, beside)


def _grown(begun, left, beside):
    """A generator of the choices that begin with some views; `left` has those that can stand behind these, and
    `beside` tells which go together.
    """
    for at, view in enumerate(left):
        more = (*begun, view)
        rest = [other for other in left[at + 1:] if other in beside[view]]
        yield from _grown(more, rest, beside)
    # The plan with no more of them comes last, because in its stead it has a greater view, if only that of the last
    # table alone.
    yield begun


def count_plans(question):
    """The number of all plans for a question."""
    if not isinstance(question, Question):
        raise InvalidQuestion("plans are for a question")
    return PLANS[len(question)]


def each_plan(question):
    """A generator of all plans for a question, in ascending order of their views."""
    if not isinstance(question, Question):
        raise InvalidQuestion("plans are for a question")
    names = question.names
    for views in _choices(names):
        yield Plan(question, views)


def plan_at(question, number):
    """The plan for a question with a number in the order of all plans."""
    many = count_plans(question)
    if not is_count(number) or number >= many:
        raise InvalidNumber(number)
    return Plan(question, list(_choices(question.names))[number])


def number_of(plan):
    """The number of a plan in the order of all plans for its question."""
    if not isinstance(plan, Plan):
        raise InvalidPlan("only plans have a number")
    inner = [view for view in plan.views if 1 < len(view) < len(plan.root)]
    return list(_choices(plan.root)).index(tuple(inner))
