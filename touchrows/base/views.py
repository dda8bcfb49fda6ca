"""Views, as tuples of tables: what they are, and which columns they have."""

from touchrows.base.words import is_ascending_names


def is_view(question, value):
    """Whether the value is an ascending tuple of tables of a question, not empty."""
    return is_ascending_names(value) and len(value) > 0 and all([name in question for name in value])


def columns_among(question, names):
    """The ascending tuple of the columns of some tables of a question."""
    tables = question.tables
    return tuple(sorted({column for name in names for column in tables[name]}))
