"""Questions, stores, weights, changes and witnesses as texts."""

from touchrows.base.figures import great_in, written
from touchrows.base.questions import Question
from touchrows.base.ratios import ratio_in
from touchrows.data.changes import is_told_change, is_told_row
from touchrows.data.rows import row_in, row_text
from touchrows.data.stores import Store
from touchrows.errors import InvalidOperation, InvalidStore, InvalidWeights, ParseError
from touchrows.weigh.checks import check_question
from touchrows.weigh.pairs import is_weights, ratios_of

# What stands for a store without rows, and for no weights.
EMPTY = "empty"
NONE = "none"


def _lines_in(text):
    """The list of the lines of a text."""
    if not isinstance(text, str):
        raise ParseError(None)
    return text.split("\n")


def write_question(question):
    """The text of a question."""
    check_question(question)
    return "\n".join(question.lines)


def read_question(text):
    """The question of which this is a text, with its lines in any order."""
    lines = _lines_in(text)
    return Question.from_lines(*lines)


def store_lines(store):
    """The list of the lines of the text of a store."""
    return [f"{table} {row_text(row)}" for table, row in store] or [EMPTY]


def write_store(store):
    """The text of a store."""
    if not isinstance(store, Store):
        raise InvalidStore("not a store")
    return "\n".join(store_lines(store))


def read_store(question, text):
    """The store for a question of which this is the text."""
    check_question(question)
    return _store_in(question, _lines_in(text), 0)


def _store_in(question, lines, first):
    """The store of which the lines of a text tell that stand behind so many others."""
    told = lines[first:]
    if told == [EMPTY]:
        return Store(question, {})
    rows, last = {}, ()
    for at, line in enumerate(told):
        pair = _pair_in(question, line)
        if pair is None or pair <= last:
            raise ParseError(first + at)
        rows.setdefault(pair[0], []).append(pair[1])
        last = pair
    return Store(question, {table: tuple(listed) for table, listed in rows.items()})


def _pair_in(question, line):
    """The pair of a table and a row of it that a line tells of; None if it tells of none."""
    table, *words = line.split(" ")
    if table not in question or len(words) != len(question.tables[table]):
        return None
    row = row_in(words)
    return None if row is None else (table, row)


def write_weights(weights):
    """The text of weights."""
    if not is_weights(weights):
        raise InvalidWeights("not weights")
    return ", ".join([f"{name} {ratio}" for name, ratio in ratios_of(weights).items()]) or NONE


def read_weights(text):
    """The weights of which this is the text."""
    weights = _weights_in(text) if isinstance(text, str) else None
    if not is_weights(weights):
        raise ParseError(None)
    return weights


def _weights_in(text):
    """The pairs of a word and of a ratio that a text tells of; None if it tells of none."""
    if text == NONE:
        return ()
    pairs = []
    for part in text.split(", "):
        name, _, rest = part.partition(" ")
        ratio = ratio_in(rest)
        if ratio is None:
            return None
        pairs.append((name, ratio.pair))
    return tuple(pairs)


def write_change(change):
    """The text of a change."""
    if not is_told_change(change):
        raise InvalidOperation("not a change")
    word, table, row = change
    return f"{word} {table} {row_text(row)}"


def read_change(text):
    """The change of which this is the text."""
    change = change_in(text) if isinstance(text, str) else None
    if change is None:
        raise ParseError(None)
    return change


def change_in(text):
    """The change of which a string is the text; None if it is no such text."""
    words = text.split(" ")
    row = row_in(words[2:])
    change = (*words[:2], row)
    return change if is_told_change(change) else None


def write_witness(value):
    """The text of a witness, or of what has the form of one."""
    if not _is_told_witness(value):
        raise InvalidOperation("not a number, a store and a row")
    number, store, row = value
    lines = store_lines(store)
    return "\n".join([written(number), row_text(row), *lines])


def _is_told_witness(value):
    """Whether the value is a triple of an integer of at least 1, a store and a row."""
    if not isinstance(value, tuple) or len(value) != 3:
        return False
    number, store, row = value
    # A witness can be told with a number of more than sixty digits.
    if not isinstance(number, int) or isinstance(number, bool) or number < 1:
        return False
    return isinstance(store, Store) and is_told_row(row)


def read_witness(question, text):
    """The witness of which this is the text, or what has the form of one."""
    check_question(question)
    lines = _lines_in(text)
    number = great_in(lines[0])
    if number is None:
        raise ParseError(0)
    row = row_in(lines[1].split(" ")) if len(lines) > 1 else None
    if not is_told_row(row):
        raise ParseError(1)
    if len(lines) == 2:
        raise ParseError(2)
    return number, _store_in(question, lines, 2), row
