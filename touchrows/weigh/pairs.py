"""Weights as values: ascending tuples of pairs of a name and of a ratio above 0, as its own pair."""

from math import gcd, lcm

from touchrows.base.ratios import Ratio, sum_of
from touchrows.base.words import is_ascending_names, is_integer


def is_weights(value):
    """Whether the value is weights of names."""
    if not isinstance(value, tuple) or not all([isinstance(one, tuple) and len(one) == 2 for one in value]):
        return False
    return is_ascending_names(tuple([one[0] for one in value])) and all([_is_weight(one[1]) for one in value])


def _is_weight(value):
    """Whether the value is the pair of a ratio above 0, in lowest terms."""
    if not isinstance(value, tuple) or len(value) != 2 or not all([is_integer(one) and one >= 1 for one in value]):
        return False
    return gcd(value[0], value[1]) == 1


def is_weights_of(names, value):
    """Whether the value is weights of some of the names."""
    return is_weights(value) and all([one[0] in names for one in value])


def weights_of(ratios):
    """The weights that a dict from names to ratios of at least 0 tells of."""
    return tuple([(name, ratios[name].pair) for name in sorted(ratios) if ratios[name]])


def ratios_of(weights):
    """The dict from the names of weights to their ratios."""
    return {name: Ratio(pair[0], pair[1]) for name, pair in weights}


def total_of_names(weights, names):
    """The sum of the weights of some names."""
    return sum_of(tuple([ratio for name, ratio in ratios_of(weights).items() if name in names]))


def common_bottom(ratios):
    """The least common denominator of a list of ratios."""
    common = 1
    for ratio in ratios:
        common = lcm(common, ratio.bottom)
    return common
