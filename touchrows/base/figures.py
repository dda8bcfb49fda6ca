"""Integers as decimal texts, whatever their length.

Python itself refuses to convert integers of some thousand digits, and results can be that long. So both
directions go block by block.
"""

from touchrows.base.words import BEYOND, MAX_FIGURES


def written(number):
    """The decimal text of an integer."""
    sign = "-" if number < 0 else ""
    rest = abs(number)
    blocks = []
    while rest >= BEYOND:
        rest, low = divmod(rest, BEYOND)
        blocks.append(str(low).zfill(MAX_FIGURES))
    blocks.append(f"{sign}{rest}")
    return "".join(blocks[::-1])


def _value_of(figures):
    """The integer of at least 0 that a text of nothing but figures stands for."""
    first = len(figures) % MAX_FIGURES
    number = int("0" + figures[:first])
    for at in range(first, len(figures), MAX_FIGURES):
        number = number * BEYOND + int(figures[at:at + MAX_FIGURES])
    return number


def integer_in(text):
    """The integer of which a string is the decimal text; None if it is no such text."""
    figures = text.removeprefix("-")
    if not figures.isascii() or not figures.isdigit():
        return None
    number = _value_of(figures)
    if text.startswith("-"):
        number = -number
    # Leading zeros and -0 are read above, but never written.
    return number if written(number) == text else None
