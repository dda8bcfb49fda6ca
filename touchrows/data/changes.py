"""Changes as values: triples of the word for a put or a take, of a table and of a row."""

from touchrows.base.words import is_name
from touchrows.data.rows import is_row
from touchrows.data.stores import MAX_ROWS, is_row_of

MAX_CHANGES = 200
MAX_VALUES = 6
OPPOSITES = {"put": "take", "take": "put"}


def is_told_row(value):
    """Whether the value can be a row of a table of some question."""
    return isinstance(value, tuple) and 1 <= len(value) <= MAX_VALUES and is_row(value, len(value))


def is_told_change(value):
    """Whether the value can be a change of a store for some question."""
    if not isinstance(value, tuple) or len(value) != 3:
        return False
    # Not every value can be looked up in a dict.
    if not isinstance(value[0], str) or value[0] not in OPPOSITES:
        return False
    return is_name(value[1]) and is_told_row(value[2])


def is_told_history(value):
    """Whether the value can be a history for some store."""
    return isinstance(value, tuple) and len(value) <= MAX_CHANGES and all([is_told_change(one) for one in value])


def can_follow(store, changes):
    """Whether told changes can be carried out one behind the other, beginning with a store."""
    question = store.question
    there = {pair: True for pair in store}
    counts = {table: len(rows) for table, rows in store.rows.items()}
    for word, table, row in changes:
        if table not in question or not is_row_of(question, table, row):
            return False
        pair = (table, row)
        if (pair in there) != (word == "take"):
            return False
        if word == "take":
            del there[pair]
            counts[table] -= 1
        elif counts[table] == MAX_ROWS:
            return False
        else:
            there[pair] = True
            counts[table] += 1
    return True


def led_back_by(changes):
    """The tuple of the opposite changes in the opposite order."""
    return tuple([(OPPOSITES[word], table, row) for word, table, row in changes[::-1]])
