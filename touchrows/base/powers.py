"""Powers and roots of integers, with exponents of whatever size."""


def power(base, exponent):
    """The base to the power of an integer of at least 0."""
    result = 1
    for figure in f"{exponent:b}":
        result = result * result
        if figure == "1":
            result = result * base
    return result
