"""How many rows a change touches in a store, counted from its definition."""

from touchrows.base.views import columns_among
from touchrows.data.joins import Part, joined
from touchrows.data.rows import picked, places_of
from touchrows.data.stores import MAX_READINGS, Store, is_row_of, parts_of
from touchrows.errors import TooMany


def is_change(question, table, store, row):
    """Whether there are a store for a question, and a row of a table in it."""
    return isinstance(store, Store) and store.question == question and is_row_of(question, table, row)


def touched_at(store, plan, view, table, row):
    """How many rows the change of a row of a table touches at a view that has the table."""
    question = plan.question
    others = [name for name in view if name != table]
    parts = [Part(question.tables[table], [row])] + parts_of(store, others)
    places = places_of(columns_among(question, view), plan.met(view))
    many = 0
    touched = {}
    for reading in joined(parts):
        many += 1
        if many > MAX_READINGS:
            raise TooMany(MAX_READINGS)
        touched[picked(reading, places)] = True
    return len(touched)
