"""The commands of a shell: what a line of text asks for."""

from touchrows.base.ratios import ratio_in
from touchrows.base.words import is_name
from touchrows.text.texts import change_in

# What stands behind the first word of a command.
BEHIND = {
    "draw": "view", "erase": "view", "resize": "size", "regroup": "columns", "demand": "pledge", "waive": "pledge",
    "undo": "", "redo": "", "question": "", "plan": "", "pledges": "", "store": "", "put": "row", "take": "row",
    "foresee": "change", "answer": "", "degrees": "", "all": "", "room": "", "covering": "place", "filling": "place",
    "degree": "place", "constant": "", "crossing": "", "least": "", "best": "table",
}


def command_in(line):
    """The first word of a command, and the tuple of what it is about; None for a value that is no command."""
    if not isinstance(line, str):
        return None
    word, *rest = line.split(" ")
    kind = BEHIND.get(word)
    if kind is None:
        return None
    if kind == "row":
        change = change_in(line)
        given = None if change is None else change[1:]
    else:
        given = _given(kind, rest)
    return None if given is None else (word, given)


def _given(kind, words):
    """The tuple of what the words behind the first one tell; None if they do not tell of what they should."""
    if kind == "pledge":
        pledge = _pledge_in(words)
        return None if pledge is None else (pledge,)
    if kind == "change":
        change = change_in(" ".join(words))
        return None if change is None else change[1:]
    if kind == "size":
        size = ratio_in(words[1]) if len(words) == 2 and is_name(words[0]) else None
        return None if size is None else (words[0], size)
    return _names_in(kind, tuple(words))


def _names_in(kind, words):
    """As above, where all words are names."""
    if not all([is_name(word) for word in words]):
        return None
    if kind in ("view", "columns"):
        return (words,) if words or kind == "columns" else None
    if kind == "place":
        return (words[1:], words[0]) if len(words) > 1 else None
    return words if len(words) == (1 if kind == "table" else 0) else None


def _pledge_in(words):
    """The pledge, or what has its form, that words tell of; None if they tell of none."""
    if words == ["constant"]:
        return ("constant",)
    ratio = ratio_in(words[-1]) if words else None
    if ratio is None:
        return None
    if len(words) == 2 and words[0] in ("all", "room"):
        return (words[0], ratio.pair)
    if len(words) == 3 and words[0] == "degree" and is_name(words[1]):
        return ("degree", words[1], ratio.pair)
    return None
