"""Exact fractions."""

from math import gcd

from touchrows.base.figures import integer_in, written
from touchrows.base.words import is_integer
from touchrows.errors import InvalidOperation, InvalidRatio


class Ratio:
    """The exact fraction top / bottom, in lowest terms; it never changes."""

    def __init__(self, top, bottom):
        if not is_integer(top) or not is_integer(bottom) or bottom < 1:
            raise InvalidRatio("a ratio is made of two integers, of which the second one is at least 1")
        common = gcd(top, bottom)
        self._top = top // common
        self._bottom = bottom // common

    @classmethod
    def of_text(cls, text):
        """The ratio of which this is the text."""
        told = ratio_in(text)
        if told is None:
            raise InvalidRatio("not the text of a ratio")
        return told

    @property
    def top(self):
        return self._top

    @property
    def bottom(self):
        return self._bottom

    @property
    def pair(self):
        return (self._top, self._bottom)

    def __add__(self, other):
        if not isinstance(other, Ratio):
            return NotImplemented
        return _lowest(self._top * other._bottom + other._top * self._bottom, self._bottom * other._bottom)

    def __sub__(self, other):
        if not isinstance(other, Ratio):
            return NotImplemented
        return _lowest(self._top * other._bottom - other._top * self._bottom, self._bottom * other._bottom)

    def __mul__(self, other):
        if not isinstance(other, Ratio):
            return NotImplemented
        return _lowest(self._top * other._top, self._bottom * other._bottom)

    def __neg__(self):
        return _lowest(-self._top, self._bottom)

    def over(self, other):
        """The quotient of this ratio and another one."""
        if not isinstance(other, Ratio):
            raise InvalidRatio("a ratio is divided by a ratio")
        if not other:
            raise InvalidOperation("no ratio is divided by 0")
        sign = -1 if other.top < 0 else 1
        return _lowest(sign * self._top * other.bottom, sign * self._bottom * other.top)

    def is_less(self, value):
        """Whether the value is a ratio that is greater than this one."""
        return isinstance(value, Ratio) and self._top * value.bottom < value.top * self._bottom

    def __bool__(self):
        return bool(self._top)

    def __eq__(self, other):
        return isinstance(other, Ratio) and self._top == other._top and self._bottom == other._bottom

    def __str__(self):
        if self._bottom == 1:
            return f"{written(self._top)}"
        return f"{written(self._top)}/{written(self._bottom)}"


def _lowest(top, bottom):
    """The ratio top / bottom, where `bottom` is at least 1 and both can be of any length."""
    # Only what callers pass is limited to sixty digits, so results go around the check of the class.
    made = Ratio(0, 1)
    common = gcd(top, bottom)
    made._top = top // common
    made._bottom = bottom // common
    return made


def ratio_in(text):
    """The ratio of which the value is the text; None if it is no such text."""
    if not isinstance(text, str):
        return None
    head, slash, tail = text.partition("/")
    top = integer_in(head)
    bottom = integer_in(tail) if slash else 1
    if top is None or bottom is None or bottom < 1:
        return None
    told = _lowest(top, bottom)
    # A fraction that can be reduced, and one over 1, are read above, but never written.
    return told if str(told) == text else None


def _is_ratios(value):
    """Whether the value is a tuple of ratios."""
    return isinstance(value, tuple) and all([isinstance(one, Ratio) for one in value])


def sum_of(ratios):
    """The sum of a tuple of ratios."""
    if not _is_ratios(ratios):
        raise InvalidRatio("a sum is made of a tuple of ratios")
    total = Ratio(0, 1)
    for one in ratios:
        total = total + one
    return total


def greatest_of(ratios):
    """The greatest one of a tuple of ratios."""
    if not _is_ratios(ratios):
        raise InvalidRatio("the greatest one is found in a tuple of ratios")
    if not ratios:
        raise InvalidOperation("there is no greatest one of no ratios")
    best = ratios[0]
    for one in ratios:
        if best.is_less(one):
            best = one
    return best
