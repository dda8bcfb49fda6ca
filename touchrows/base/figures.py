"""Integers as decimal texts.

Results can have more digits than Python itself writes, and what was told can be read again. So great integers are
written and read block by block.
"""

from touchrows.base.words import BEYOND, MAX_FIGURES


def written(number):
    """The decimal text of an integer of whatever length."""
    sign = "-" if number < 0 else ""
    rest = abs(number)
    blocks = []
    while rest >= BEYOND:
        rest, low = divmod(rest, BEYOND)
        blocks.append(str(low).zfill(MAX_FIGURES))
    blocks.append(f"{sign}{rest}")
    return "".join(blocks[::-1])


def integer_in(text):
    """The integer of at most sixty digits of which a string is the decimal text; None if it is no such text."""
    figures = text.removeprefix("-")
    if not figures.isascii() or not figures.isdigit() or len(figures) > MAX_FIGURES:
        return None
    number = int(text)
    # Leading zeros and -0 are read above, but never written.
    return number if str(number) == text else None


def great_in(text):
    """The integer of at least 1, of whatever length, of which a string is the text; None if it is no such text."""
    if not text.isascii() or not text.isdigit() or text.startswith("0"):
        return None
    ahead = len(text) % MAX_FIGURES
    number = int(text[:ahead]) if ahead else 0
    for at in range(ahead, len(text), MAX_FIGURES):
        number = number * BEYOND + int(text[at:at + MAX_FIGURES])
    return number
