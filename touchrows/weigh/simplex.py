"""The greatest sum of amounts under limits, and the prices of the limits, found exactly.

This is the simplex method. All numbers of the tableau are integers over one common denominator, `scale`, which is the
number that was last turned around; so the divisions come out even.
"""


def solved(rows, limits, many):
    """The triple of a list of amounts, a list of prices, and the denominator of all of them.

    There are so many amounts, each of at least 0. Each row has 1 for the amounts that count for its limit, and 0 for
    the others. The sum of the amounts is the greatest. The prices of the limits, one for each row, are at least 0, and
    those of the rows that have an amount add up to at least 1. The sum of the limits, each times its price, is the
    least. Amounts and prices are at a corner each, so that the denominators are small.
    """
    tableau = _begun(rows, limits, many)
    basis = [many + at for at in range(len(rows))]
    scale = 1
    while min(tableau[-1][:-1], default=0) < 0:
        # The first column that helps, and of equal rows the first: so no basis comes twice.
        at = [one < 0 for one in tableau[-1]].index(True)
        row = _tightest(tableau, basis, at)
        tableau, scale = _turned(tableau, row, at, scale), tableau[row][at]
        basis[row] = at
    amounts = [0] * many
    for row, at in enumerate(basis):
        if at < many:
            amounts[at] = tableau[row][-1]
    return amounts, tableau[-1][many:-1], scale


def _begun(rows, limits, many):
    """The tableau with which it begins: a row for each limit with what is left of it, and one for the sum."""
    tableau = []
    for at, row in enumerate(rows):
        rest = [0] * len(rows)
        rest[at] = 1
        tableau.append([*row, *rest, limits[at]])
    return [*tableau, [-1] * many + [0] * (len(rows) + 1)]


def _tightest(tableau, basis, at):
    """The row whose limit stops first what grows in a column."""
    best = None
    for row, grown in enumerate(basis):
        step, left = tableau[row][at], tableau[row][-1]
        if step <= 0:
            continue
        if best is None:
            best = row
        here, there = left * tableau[best][at], tableau[best][-1] * step
        if here < there or (here == there and grown < basis[best]):
            best = row
    return best


def _turned(tableau, row, at, scale):
    """The tableau behind a turn around the number at a row and a column."""
    pivot, line = tableau[row][at], tableau[row]
    turned = []
    for place, other in enumerate(tableau):
        if place == row:
            turned.append(line)
        else:
            turned.append([(one * pivot - other[at] * mine) // scale for one, mine in zip(other, line)])
    return turned
