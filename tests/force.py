"""What the document says, found by force, and drawn questions, stores and plans to find it for."""

import fractions
import itertools
import random

from touchrows.base.questions import Question
from touchrows.base.ratios import Ratio
from touchrows.data.stores import Store
from touchrows.plan.plans import Plan


def columns_of(question, names):
    return sorted({column for name in names for column in question.tables[name]})


def readings_by_force(question, rows, names):
    """All readings of some tables: each choice of a row for each table that agrees at all columns."""
    columns, found = columns_of(question, names), []
    for choice in itertools.product(*[rows[name] for name in names]):
        values = {}
        pairs = [pair for name, row in zip(names, choice) for pair in zip(question.tables[name], row)]
        if all(values.setdefault(column, value) == value for column, value in pairs):
            found.append(tuple(values[column] for column in columns))
    return sorted(found)


def kept_by_force(plan, view):
    question = plan.question
    outside = columns_of(question, [name for name in question.names if name not in view])
    return tuple(column for column in columns_of(question, view) if column in question.groups or column in outside)


def children_by_force(plan, view):
    inside = [other for other in plan.views if set(other) < set(view)]
    return tuple(one for one in inside if not any(set(one) < set(other) for other in inside))


def met_by_force(plan, view):
    if len(view) == 1:
        return tuple(columns_of(plan.question, view))
    return tuple(sorted({column for child in children_by_force(plan, view) for column in kept_by_force(plan, child)}))


def at_columns(question, names, row, columns):
    """The values of a reading of some tables at some columns."""
    values = dict(zip(columns_of(question, names), row))
    return tuple(values[column] for column in columns)


def counted(question, names, readings, columns):
    """The dict from the values at some columns to the numbers of readings with them, ascending."""
    told = [at_columns(question, names, row, columns) for row in readings]
    return {row: told.count(row) for row in sorted(set(told))}


def contents_by_force(plan, view, rows):
    return counted(plan.question, view, readings_by_force(plan.question, rows, view), kept_by_force(plan, view))


def touched_by_force(plan, view, table, row, rows):
    """The ascending tuple of the rows that the change of a row touches at a view."""
    readings = readings_by_force(plan.question, {**rows, table: (row,)}, view)
    return tuple(counted(plan.question, view, readings, met_by_force(plan, view)))


def drawn_question(draw, tables, *, columns=4, sizes=False):
    """A question with so many tables, of up to so many columns."""
    letters = "abcdefgh"[:draw.randint(1, columns)]
    told = {
        name: tuple(sorted(draw.sample(letters, draw.randint(1, min(6, len(letters))))))
        for name in draw.sample(("q", "r", "s", "t", "u", "v", "ra", "rs"), tables)
    }
    used = sorted({column for names in told.values() for column in names})
    groups = tuple(sorted(draw.sample(used, draw.randint(0, len(used)))))
    if not sizes:
        return Question(told, groups)
    given = {name: draw.choice((Ratio(0, 1), Ratio(1, 2), Ratio(1, 1), Ratio(3, 2), Ratio(2, 3), Ratio(9, 1), Ratio(7, 60)))
             for name in told if draw.random() < 0.8}
    return Question(told, groups, sizes=given)


def drawn_row(draw, question, table, values=3):
    return tuple(draw.randrange(values) for _ in question.tables[table])


def drawn_rows(draw, question, most=4, values=3):
    """Rows for all tables of a question, at most so many each."""
    return {
        name: tuple({drawn_row(draw, question, name, values) for _ in range(draw.randint(0, most))})
        for name in question.names
    }


def drawn_store(draw, question, most=4, values=3):
    return Store(question, drawn_rows(draw, question, most, values))


def drawn_plan(draw, question):
    """A plan for a question, which begins flat and takes views as long as they go with it."""
    names, views = question.names, []
    for _ in range(draw.randint(0, 8)):
        view = set(draw.sample(names, draw.randint(1, len(names))))
        if all(view <= set(other) or set(other) <= view or not view & set(other) for other in views):
            views.append(tuple(sorted(view)))
    return Plan(question, tuple(set(views)))


def plans_by_force(question):
    """The ascending views of all plans for a question: each set of views that is one."""
    names = question.names
    views = [view for size in range(1, len(names) + 1) for view in itertools.combinations(names, size)]
    sure = [view for view in views if len(view) in (1, len(names))]
    found, inner = [], [view for view in views if view not in sure]
    for size in range(max(1, len(names) - 1)):
        for chosen in itertools.combinations(inner, size):
            pairs = itertools.combinations([set(view) for view in chosen], 2)
            if all(one <= other or other <= one or not one & other for one, other in pairs):
                found.append(tuple(sorted({*sure, *chosen})))
    return sorted(found)


def many(times, seed):
    """So many random sources that draw the same each time."""
    return [random.Random(f"{seed} {number}") for number in range(times)]


def fraction(ratio):
    return fractions.Fraction(ratio.top, ratio.bottom)


def amounts(weights):
    """The dict from the names of weights to fractions."""
    return {name: fractions.Fraction(*pair) for name, pair in weights}


def covers_by_force(question, tables, columns, weights):
    """Whether weights of these tables cover these columns."""
    told = amounts(weights)
    return set(told) <= set(tables) and all(
        sum(told.get(name, 0) for name in tables if column in question.tables[name]) >= 1 for column in columns
    )


def fills_by_force(question, tables, columns, weights):
    """Whether these tables hold weights of these columns."""
    told = amounts(weights)
    return set(told) <= set(columns) and all(
        sum(told.get(column, 0) for column in question.tables[name]) <= fraction(question.sizes[name]) for name in tables
    )


def price_by_force(question, weights):
    return sum(weight * fraction(question.sizes[name]) for name, weight in amounts(weights).items())


def drawn_weights(draw, names):
    """Weights of some of the names."""
    choices = [(1, 3), (1, 2), (2, 3), (1, 1), (3, 2), (2, 1), (1, 4), (5, 7)]
    return tuple((name, draw.choice(choices)) for name in sorted(names) if draw.random() < 0.7)


def places_of_plan(plan):
    """All pairs of a view and a table of it."""
    return [(view, table) for view in plan.views for table in view]


def open_by_force(plan, view, table):
    own = plan.question.tables[table]
    return tuple(column for column in met_by_force(plan, view) if column not in own)


def all_plans(question):
    """All plans for a question, found by force, in ascending order of their views."""
    return [Plan(question, views) for views in plans_by_force(question)]


def drawn_questions(times, seed, most=4, **named):
    """Drawn questions of up to so many tables, each with its random source."""
    for draw in many(times, seed):
        yield draw, drawn_question(draw, draw.randint(1, most), **{"columns": draw.randint(1, 6), **named})


def drawn_history(draw, store, length, values=3):
    """A history for a store, of up to so many changes; a change that cannot follow is left out."""
    there, told = set(store), []
    for _ in range(length):
        table = draw.choice(store.question.names)
        pair = (table, drawn_row(draw, store.question, table, values))
        told.append(("take" if pair in there else "put", *pair))
        there ^= {pair}
    return tuple(told)
