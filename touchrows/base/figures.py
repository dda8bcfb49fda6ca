"""Integers as decimal texts.

Results can have more digits than Python itself writes, so the writing goes block by block. What is read is
passed by a caller, and has at most sixty digits.
"""

from touchrows.base.words import BEYOND, MAX_FIGURES


def written(number):
    """The decimal text of an integer of whatever length."""
    sign = "-" if number < 0 else ""
    rest = abs(number)
    blocks = []
    while rest >= BEYOND:
        rest, low = divmod(rest, BEYOND)
        blocks.append(str(low).zfill(MAX_FIGURES))
    blocks.append(f"{sign}{rest}")
    return "".join(blocks[::-1])


def integer_in(text):
    """The integer of at most sixty digits of which a string is the decimal text; None if it is no such text."""
    figures = text.removeprefix("-")
    if not figures.isascii() or not figures.isdigit() or len(figures) > MAX_FIGURES:
        return None
    number = int(text)
    # Leading zeros and -0 are read above, but never written.
    return number if str(number) == text else None
