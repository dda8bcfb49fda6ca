"""Rows of several parts put side by side.

Joining goes column by column, so that the rows come in ascending order. Behind each value, rows that match no row of
another part are struck out. Otherwise many beginnings would be tried that lead to no row in the end.
"""

from touchrows.data.rows import picked, places_of


class Part:
    """Different rows of some ascending columns."""

    def __init__(self, header, listed):
        self.header = header
        self.listed = listed
        self._indexes = {}

    def by(self, columns):
        """The dict from the values at some of the columns to the rows with these values."""
        # The same part is asked anew for each value of a column that it does not have, so the answer is kept.
        if columns not in self._indexes:
            places = places_of(self.header, columns)
            index = {}
            for row in self.listed:
                index.setdefault(picked(row, places), []).append(row)
            self._indexes[columns] = index
        return self._indexes[columns]


def joined(parts):
    """A generator of the ascending rows of all columns of the parts, in which each part finds one of its rows."""
    columns = tuple(sorted({column for part in parts for column in part.header}))
    settled = _settled(parts, len(parts)) if all([len(part.listed) > 0 for part in parts]) else None
    if settled is None:
        return
    if columns:
        yield from _extended((), columns, settled)
    else:
        yield ()


def _extended(begun, columns, parts):
    """A generator of the rows that begin with some values; the settled parts have only the columns behind these."""
    first, rest = columns[0], columns[1:]
    heads = [_by_first(part) for part in parts if first in part.header]
    others = [part for part in parts if part.header and first not in part.header]
    # All heads have the same values here, because they are settled.
    for value in sorted(heads[0]):
        row = (*begun, value)
        if not rest:
            yield row
            continue
        behind = [head[value] for head in heads]
        settled = _settled(behind + others, len(behind))
        if settled is not None:
            yield from _extended(row, rest, settled)


def _by_first(part):
    """The dict from the values at the first column of a part to the part of what stands behind them."""
    behind = {}
    for row in part.listed:
        behind.setdefault(row[0], []).append(row[1:])
    return {value: Part(part.header[1:], behind[value]) for value in behind}


def _settled(parts, many):
    """The parts without rows that match no row of another one; None if one has no rows left.

    Only the first so many parts can have lost rows since they were settled the last time.
    """
    settled = list(parts)
    waiting = list(range(many))
    while waiting:
        at = waiting.pop(0)
        for place, part in enumerate(list(settled)):
            shared = tuple([column for column in part.header if column in settled[at].header])
            if place == at or not shared:
                continue
            left = _matching(part, settled[at], shared)
            if not left.listed:
                return None
            if len(left.listed) < len(part.listed) and place not in waiting:
                waiting.append(place)
            settled[place] = left
    return settled


def _matching(part, other, shared):
    """The part with just its rows that have the values of a row of the other one at the shared columns."""
    ours, theirs = part.by(shared), other.by(shared)
    if len(ours) <= len(theirs):
        common = [key for key in ours if key in theirs]
    else:
        common = [key for key in theirs if key in ours]
    if len(common) == len(ours):
        return part
    return Part(part.header, [row for key in common for row in ours[key]])


def count_joined(parts, wanted):
    """How many rows of the wanted columns the joined rows come to, however many, without listing them."""
    return _counted(parts, len(parts), wanted)


def _counted(parts, many, wanted):
    """As above; only the first so many parts can have lost rows since they were settled the last time."""
    settled = _settled(parts, many)
    if settled is None:
        return 0
    count = 1
    for group in _linked(settled):
        count = count * _counted_linked(group, wanted)
    return count


def _linked(parts):
    """The parts in groups, such that parts of different groups have no column in common."""
    groups = []
    for part in parts:
        near, apart = [part], []
        for group in groups:
            if any([column in part.header for other in group for column in other.header]):
                near.extend(group)
            else:
                apart.append(group)
        groups = [*apart, near]
    return groups


def _counted_linked(parts, wanted):
    """As above, for settled parts that are one group."""
    if len(parts) == 1:
        columns = tuple([column for column in parts[0].header if column in wanted])
        return len(parts[0].by(columns))
    column = _most_common(parts, wanted)
    if column is None:
        return 1 if _is_joined(parts) else 0
    heads = [part for part in parts if column in part.header]
    others = [part for part in parts if column not in part.header]
    keys = list(heads[0].by((column,)))
    total = 0
    for key in keys:
        fixed = [_fixed(part, column, key) for part in heads]
        total += _counted(fixed + others, len(fixed), wanted)
    return total


def _most_common(parts, wanted):
    """The wanted column that most of the parts have; None if they have none."""
    columns = [column for part in parts for column in part.header if column in wanted]
    return max(columns, key=lambda name: columns.count(name), default=None)


def _is_joined(parts):
    """Whether there is any joined row."""
    for _ in joined(parts):
        return True
    return False


def _fixed(part, column, key):
    """The part of what stands beside a value in a column."""
    rest = tuple([other for other in part.header if other != column])
    places = places_of(part.header, rest)
    return Part(rest, [picked(row, places) for row in part.by((column,))[key]])
