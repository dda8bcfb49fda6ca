"""Integers, counts and names: the smallest values that are passed around."""

MAX_LETTERS = 8
MAX_FIGURES = 60
LETTERS = "abcdefghijklmnopqrstuvwxyz"

# The least integer with too many figures. An exponent has to be written out, so this repeats MAX_FIGURES.
BEYOND = 10 ** 60


def is_integer(value):
    """Whether the value is an integer of at most sixty digits."""
    if not isinstance(value, int) or isinstance(value, bool):
        return False
    return -BEYOND < value < BEYOND


def is_count(value):
    """Whether the value is an integer of at most sixty digits that is at least 0."""
    return is_integer(value) and value >= 0


def is_name(value):
    """Whether the value is a name of a table or a column."""
    if not isinstance(value, str) or not 1 <= len(value) <= MAX_LETTERS:
        return False
    return all([letter in LETTERS for letter in value])


def is_ascending_names(value):
    """Whether the value is a tuple of names, perhaps of none, sorted and without duplicates."""
    if not isinstance(value, tuple) or not all([is_name(name) for name in value]):
        return False
    return all([low < high for low, high in zip(value, value[1:])])
