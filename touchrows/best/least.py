"""Plans of the least degree, of a table or of all, and the bills of plans, which tell the degrees of all tables."""

from touchrows.errors import InvalidOperation, TooMany
from touchrows.plan.plans import Plan
from touchrows.plan.shapes import count_plans, each_plan
from touchrows.weigh.checks import check_question, check_table
from touchrows.weigh.programs import Program
from touchrows.weigh.rooms import degrees, plan_degree

MAX_PLANS = 300


def check_few_plans(question):
    """Raise the error of what is no question, or of a question with too many plans to compare them all."""
    if count_plans(question) > MAX_PLANS:
        raise TooMany(MAX_PLANS)


def least_of(ratios):
    """The least one of a list of ratios, not empty."""
    least = ratios[0]
    for one in ratios:
        if one.is_less(least):
            least = one
    return least


def least_degree(question):
    """The least degree of a plan for a question."""
    check_few_plans(question)
    return least_of([plan_degree(plan) for plan in each_plan(question)])


def least_plan(question):
    """A plan for a question that has the least degree."""
    return list(each_least_plan(question))[0]


def is_least_plan(question, value):
    """Whether the value is a plan for a question that has the least degree."""
    least = least_degree(question)
    return isinstance(value, Plan) and value.question == question and plan_degree(value) == least


def each_least_plan(question):
    """A generator of all plans for a question with the least degree, in ascending order of their views."""
    least = least_degree(question)
    for plan in each_plan(question):
        if plan_degree(plan) == least:
            yield plan


def least_for(question, table):
    """The least degree of a table over all plans for a question."""
    others = _others(question, table)
    own = question.tables[table]
    return Program(question, others, tuple([column for column in question.groups if column not in own])).least()


def plan_for(question, table):
    """A plan for a question in which a table has its least degree."""
    others = _others(question, table)
    # Where all other tables are one view, the table meets no more of their columns than each plan has to keep.
    return Plan(question, (others,) if others else ())


def _others(question, table):
    """The tuple of the tables of a question but one."""
    check_question(question)
    check_table(question, table)
    return tuple([name for name in question.names if name != table])


def bill(plan):
    """The tuple of the degrees of all tables in a plan, as pairs."""
    return tuple([ratio.pair for ratio in degrees(plan).values()])


def front(question):
    """The ascending tuple of all lean bills of plans for a question."""
    check_few_plans(question)
    bills = list({bill(plan): True for plan in each_plan(question)})
    return tuple(sorted([told for told in bills if not any([_is_leaner(other, told) for other in bills])]))


def _is_leaner(one, other):
    """Whether a bill has no greater degree for any table than another one, and a less one for some table."""
    return one != other and all([mine[0] * its[1] <= its[0] * mine[1] for mine, its in zip(one, other)])


def plan_with(question, value):
    """A plan for a question that has a bill."""
    check_few_plans(question)
    plans = [plan for plan in each_plan(question) if _is_among([bill(plan)], value)]
    if not plans:
        raise InvalidOperation("not the bill of a plan for the question")
    return plans[0]


def is_lean(question, value):
    """Whether the value is a lean bill."""
    return _is_among(list(front(question)), value)


def _is_among(bills, value):
    """Whether the value is one of the bills."""
    # True equals 1, but is no integer of a bill.
    return value in bills and not any([isinstance(one, bool) for pair in value for one in pair])
