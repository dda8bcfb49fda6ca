"""What goes up a plan: rows come to a view from its children, and are summed up at its kept columns.

Contents are a dict from rows of kept columns to numbers of readings. Where contents of several views are passed,
they are a dict from the views to these.
"""

from touchrows.data.joins import Part, count_joined, joined
from touchrows.data.rows import picked, places_of
from touchrows.data.stores import MAX_READINGS
from touchrows.errors import TooMany


def met_rows(plan, view, contents):
    """A generator of pairs: each row that the contents of the children of a view come to at its met columns, ascending,
    and the number of readings with these values.
    """
    children, met = plan.children(view), plan.met(view)
    parts = [Part(plan.kept(child), list(contents[child])) for child in children]
    places = [places_of(met, plan.kept(child)) for child in children]
    for row in joined(parts):
        count = 1
        for child, wanted in zip(children, places):
            count = count * contents[child][picked(row, wanted)]
        yield row, count


def gathered(plan, view, contents, limit):
    """How many rows the contents of the children of a view come to, and what these are summed up.

    More readings than the limit, if it is not None, are refused.
    """
    places = places_of(plan.met(view), plan.kept(view))
    many, total, sums = 0, 0, {}
    for row, count in met_rows(plan, view, contents):
        many += 1
        total += count
        if limit is not None and total > limit:
            raise TooMany(MAX_READINGS)
        kept = picked(row, places)
        sums[kept] = sums.get(kept, 0) + count
    return many, sums


def _own_contents(plan, view, rows):
    """The contents of the view of a single table with these rows."""
    places = places_of(plan.met(view), plan.kept(view))
    sums = {}
    for row in rows:
        kept = picked(row, places)
        sums[kept] = sums.get(kept, 0) + 1
    return sums


def all_contents(plan, store):
    """The contents of all views of a plan in a store."""
    rows, contents = store.rows, {}
    for view in sorted(plan.views, key=len):
        if len(view) == 1:
            contents[view] = _own_contents(plan, view, rows[view[0]])
        else:
            _, contents[view] = gathered(plan, view, contents, MAX_READINGS)
    return contents


def risen(plan, path, row, contents, limits):
    """What one row of a table comes to on its way up: a list of triples, for each view of the path. A triple has the
    view, how many rows the change of the row touches there, and the contents that it adds or takes away.

    The path begins with the view of the table alone. At each view that has a limit, more readings are refused.
    """
    triples = []
    changed = {view: contents[view] for view in contents}
    for view in path:
        if len(view) == 1:
            many, changed[view] = 1, _own_contents(plan, view, [row])
        else:
            many, changed[view] = gathered(plan, view, changed, limits.get(view))
        triples.append((view, many, changed[view]))
    return triples


def touched_numbers(plan, path, row, contents):
    """How many rows the change of one row of a table touches at each view of its path, however many."""
    parts = [Part(plan.met(path[0]), [row])]
    numbers = [1]
    for child, view in zip(path, path[1:]):
        others = [other for other in plan.children(view) if other != child]
        parts.extend([Part(plan.kept(other), list(contents[other])) for other in others])
        numbers.append(count_joined(parts, plan.met(view)))
    return tuple(numbers)
