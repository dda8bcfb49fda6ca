"""Pledges: tuples that tell what has to hold of a plan while it is worked on."""

from math import gcd

from touchrows.base.questions import Question
from touchrows.base.ratios import Ratio
from touchrows.base.words import is_count, is_name
from touchrows.best.nested import is_constant
from touchrows.errors import InvalidQuestion, ParseError
from touchrows.weigh.rooms import plan_degree, plan_room, table_degree


def is_pledge(value):
    """Whether the value is a pledge, whatever it is about."""
    if not isinstance(value, tuple) or not value:
        return False
    word, *rest = value
    if word == "constant":
        return not rest
    if word == "answers":
        return len(rest) == 1 and _is_lines(rest[0])
    if word == "degree":
        return len(rest) == 2 and is_name(rest[0]) and _is_limit(rest[1])
    return word in ("all", "room") and len(rest) == 1 and _is_limit(rest[0])


def _is_limit(value):
    """Whether the value is the pair of a ratio of at least 0, in lowest terms."""
    if not isinstance(value, tuple) or len(value) != 2 or not is_count(value[0]) or not is_count(value[1]):
        return False
    return value[1] > 0 and gcd(value[0], value[1]) == 1


def _is_lines(value):
    """Whether the value is the tuple of the lines of a question."""
    if not isinstance(value, tuple):
        return False
    try:
        told = Question.from_lines(*value)
    except (ParseError, InvalidQuestion):
        return False
    # Lines are read in any order, and with sizes of 1, but told otherwise.
    return told.lines == value


def stands_among(pledges, value):
    """Whether the value is one of the pledges."""
    # True equals 1, but is no integer of a pledge.
    return value in pledges and not any([
        isinstance(one, bool) for part in value if isinstance(part, tuple) for one in part
    ])


def holds(pledge, plan):
    """Whether a pledge holds for a plan."""
    word = pledge[0]
    if word == "constant":
        return is_constant(plan)
    if word == "answers":
        return _is_answered(pledge[1], plan.question)
    if word == "degree" and pledge[1] not in plan.question:
        return False
    top, bottom = pledge[-1]
    return not Ratio(top, bottom).is_less(_measured(pledge, plan))


def _measured(pledge, plan):
    """The ratio that a pledge limits."""
    if pledge[0] == "degree":
        return table_degree(plan, pledge[1])
    return plan_degree(plan) if pledge[0] == "all" else plan_room(plan)


def _is_answered(lines, question):
    """Whether the lines are those of a question, but for the sizes."""
    told = Question.from_lines(*lines)
    return told.tables == question.tables and told.groups == question.groups
