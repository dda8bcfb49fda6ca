"""The answers of a shell: what each command asks of a bench, or of a keeper of its plan."""

from touchrows.base.ratios import Ratio
from touchrows.best.least import least_for, least_plan
from touchrows.best.nested import crossing, is_constant
from touchrows.data.rows import row_text
from touchrows.text.texts import store_lines, write_weights
from touchrows.weigh.rooms import degrees, plan_degree, plan_room
from touchrows.weigh.weights import covering, degree, filling

NOTHING = "nothing"


def news_text(news):
    """The text of the news of a bench."""
    if not news:
        return NOTHING
    before, behind = news
    return f"from {_bill_text(before)} to {_bill_text(behind)}"


def _bill_text(told):
    """The text of a bill."""
    return " ".join([_pair_text(pair) for pair in told])


def _pair_text(pair):
    """The text of a ratio that is told as a pair."""
    top, bottom = pair
    return str(Ratio(top, bottom))


def pledge_text(pledge):
    """The text of a pledge that a shell can demand."""
    if pledge[0] == "constant":
        return "constant"
    words = [*pledge[:-1], _pair_text(pledge[-1])]
    return " ".join(words)


def _draw(bench, view):
    """The news of one view more."""
    return bench.draw(view)


def _erase(bench, view):
    """The news of one view less."""
    return bench.erase(view)


def _resize(bench, name, size):
    """The news of another size."""
    return bench.resize(name, size)


def _regroup(bench, groups):
    """The news of other group columns."""
    return bench.regroup(groups)


def _undo(bench):
    """The news of one change taken back."""
    return bench.undo()


def _redo(bench):
    """The news of one change done again."""
    return bench.redo()


def _demand(bench, pledge):
    """The news of one pledge more."""
    return bench.demand(pledge)


def _waive(bench, pledge):
    """The news of one pledge less."""
    return bench.waive(pledge)


def _put(keeper, table, row):
    """The numbers that a put touches."""
    return keeper.put(table, row)


def _take(keeper, table, row):
    """The numbers that a take touches."""
    return keeper.take(table, row)


def _foresee(keeper, table, row):
    """The numbers that the change of a row would touch."""
    return keeper.foreseen(table, row)


def _store(keeper):
    """The rows of all tables."""
    return "; ".join(store_lines(keeper.store))


def _answer(keeper):
    """The answer of the store."""
    return "; ".join([f"{row_text(row)}: {many}" for row, many in keeper.result.items()]) or NOTHING


def _question(bench):
    """The lines of the question."""
    return "; ".join(bench.question.lines)


def _plan(bench):
    """The text of the plan."""
    return bench.plan.text


def _pledges(bench):
    """The pledges in the order of demands."""
    return "; ".join([pledge_text(pledge) for pledge in bench.pledges]) or NOTHING


def _degrees(bench):
    """The degrees of all tables."""
    return ", ".join([f"{table} {ratio}" for table, ratio in degrees(bench.plan).items()])


def _all(bench):
    """The degree of the plan."""
    return str(plan_degree(bench.plan))


def _room(bench):
    """The room of the plan."""
    return str(plan_room(bench.plan))


def _covering(bench, view, table):
    """A covering of the least price."""
    return write_weights(covering(bench.plan, view, table))


def _filling(bench, view, table):
    """A filling of the greatest worth."""
    return write_weights(filling(bench.plan, view, table))


def _degree(bench, view, table):
    """The degree of a table at a view."""
    return str(degree(bench.plan, view, table))


def _constant(bench):
    """Whether the plan is constant."""
    return "yes" if is_constant(bench.plan) else "no"


def _crossing(bench):
    """A crossing of the question."""
    told = crossing(bench.question)
    if told is None:
        return "none"
    word, crossed, tables = told
    if word == "group":
        return f"group {crossed}, {tables}"
    columns, names = " ".join(crossed), " ".join(tables)
    return f"columns {columns}, {names}"


def _least(bench):
    """The least degree of a plan for the question, and a plan that has it."""
    plan = least_plan(bench.question)
    return f"{plan_degree(plan)} {plan}"


def _best(bench, table):
    """The least degree of a table."""
    return str(least_for(bench.question, table))


# Commands by what they are asked of, and by what this returns: of a bench the news, of a keeper the touched numbers,
# of both their answers as texts. The first ones lead to another keeper, too.
MOVES = {"draw": _draw, "erase": _erase, "resize": _resize, "regroup": _regroup, "undo": _undo, "redo": _redo}
VOWS = {"demand": _demand, "waive": _waive}
CHANGES = {"put": _put, "take": _take, "foresee": _foresee}
KEPT = {"store": _store, "answer": _answer}
ASKED = {
    "question": _question, "plan": _plan, "pledges": _pledges, "degrees": _degrees, "all": _all, "room": _room,
    "covering": _covering, "filling": _filling, "degree": _degree, "constant": _constant, "crossing": _crossing,
    "least": _least, "best": _best,
}
