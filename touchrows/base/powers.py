"""Powers and roots of integers, with exponents of whatever size."""


def power(base, exponent):
    """The base to the power of an integer of at least 0."""
    result = 1
    for figure in f"{exponent:b}":
        result = result * result
        if figure == "1":
            result = result * base
    return result


def root(number, exponent):
    """The greatest integer whose power is at most the number, which is at least 0; the exponent is at least 1."""
    # The power of the bound has more bits than the number.
    low, high = 0, power(2, number.bit_length() // exponent + 1)
    while high - low > 1:
        middle = (low + high) // 2
        if power(middle, exponent) <= number:
            low = middle
        else:
            high = middle
    return low
