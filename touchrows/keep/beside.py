"""What a history touches in many plans for one question, side by side.

How many rows a change touches at a view depends on the view and its met columns, and on nothing else of a plan. Many
plans share these, so the readings that a change touches are listed once for each view.
"""

from touchrows.base.views import columns_among
from touchrows.data.joins import Part, joined
from touchrows.data.rows import picked, places_of
from touchrows.data.stores import MAX_READINGS, parts_of, readings
from touchrows.errors import TooMany


def totals_beside(plans, store, history):
    """The dict from the texts of plans to the sums of all numbers that the changes of a history touch.

    As by keepers, more readings of the tables of a view are refused.
    """
    question = store.question
    mets = _mets_of(plans)
    sums = {(view, met): 0 for view in mets for met in mets[view]}
    counts = {view: len(list(readings(store, among=view))) for view in mets}
    for word, table, row in history:
        for view in [one for one in mets if table in one]:
            left = MAX_READINGS - counts[view] if word == "put" else counts[view]
            rows = _readings_with(store, view, table, row, left)
            counts[view] += len(rows) if word == "put" else -len(rows)
            for met in mets[view]:
                places = places_of(columns_among(question, view), met)
                sums[view, met] += len(set([picked(one, places) for one in rows]))
        store = store.with_row(table, row) if word == "put" else store.without_row(table, row)
    return {plan.text: sum([sums[view, plan.met(view)] for view in plan.views]) for plan in plans}


def _mets_of(plans):
    """The dict from the views of plans to the lists of the met columns that they have in these."""
    found = {}
    for plan in plans:
        for view in plan.views:
            known = found.setdefault(view, {})
            known[plan.met(view)] = True
    return {view: list(found[view]) for view in found}


def _readings_with(store, view, table, row, most):
    """The list of the readings of the tables of a view in which a table has just one row; only so many are let."""
    others = [name for name in view if name != table]
    rows = []
    for reading in joined([Part(store.question.tables[table], [row])] + parts_of(store, others)):
        if len(rows) == most:
            raise TooMany(MAX_READINGS)
        rows.append(reading)
    return rows
