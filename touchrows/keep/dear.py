"""Changes that touch most in a store, and histories: changes that are carried out one behind the other."""

from touchrows.base.views import columns_among
from touchrows.best.least import check_few_plans
from touchrows.data.changes import can_follow, is_told_history, led_back_by
from touchrows.data.rows import picked, places_of
from touchrows.data.stores import Store, is_row_of, readings
from touchrows.errors import InvalidOperation, InvalidStore
from touchrows.keep.beside import totals_beside
from touchrows.keep.keepers import Keeper
from touchrows.plan.shapes import each_plan
from touchrows.weigh.checks import check_place, check_plan


def _check_store(plan, store):
    """Raise the error of what is no plan, or no store for its question."""
    check_plan(plan)
    if not isinstance(store, Store) or store.question != plan.question:
        raise InvalidStore("not a store for the question of the plan")


class Tally:
    """How many rows the changes of a table touch at a view, by the values at the columns that others have, too."""

    def __init__(self, plan, store, view, table):
        others = tuple([name for name in view if name != table])
        columns = columns_among(plan.question, others)
        own = plan.question.tables[table]
        shared = tuple([column for column in own if column in columns])
        self._many = len(own)
        self._places = places_of(own, shared)
        # Without other tables, there is the one reading of no table.
        self.counts = {(): 1}
        if others:
            wanted = places_of(columns, plan.open_columns(view, table))
            self.counts = _counted(store, others, places_of(columns, shared), wanted)

    def of_row(self, row):
        """How many rows the change of a row touches."""
        return self.counts.get(picked(row, self._places), 0)

    def row_at(self, values):
        """A row with these values at the columns that others have, too."""
        told = {place: one for place, one in zip(self._places, values)}
        return tuple([told.get(place, 0) for place in range(self._many)])

    def greatest(self):
        """The greatest number of rows that a change touches."""
        return max(list(self.counts.values()), default=0)


def _counted(store, names, shared, wanted):
    """The dict from the values at some places of the readings of some tables to how many different values these
    readings have at other places.
    """
    behind = {}
    for row in readings(store, among=names):
        found = behind.setdefault(picked(row, shared), {})
        found[picked(row, wanted)] = True
    return {values: len(found) for values, found in behind.items()}


def _tally(plan, store, view, table):
    """The tally of a table at a view, for what is to be checked."""
    _check_store(plan, store)
    check_place(plan, view, table)
    return Tally(plan, store, view, table)


def most_touched(plan, store, view, table):
    """The greatest number of rows that a change of any row of a table touches at a view."""
    return _tally(plan, store, view, table).greatest()


def dearest_row(plan, store, view, table):
    """A row of a table whose change touches the greatest number of rows at a view."""
    tally = _tally(plan, store, view, table)
    most = tally.greatest()
    for values, many in tally.counts.items():
        if many == most:
            return tally.row_at(values)
    # No reading of the other tables is left for any row, so all touch equally little.
    return tally.row_at(())


def is_dearest_row(plan, store, view, table, value):
    """Whether the value is a row of a table whose change touches the greatest number of rows at a view."""
    tally = _tally(plan, store, view, table)
    return is_row_of(plan.question, table, value) and tally.of_row(value) == tally.greatest()


def most_in_all(plan, store, table):
    """The greatest number of rows that a change of any row of a table touches at all views together."""
    return max(list(_sums(plan, store, table).values()))


def dearest_in_all(plan, store, table):
    """A row of a table whose change touches the greatest number of rows at all views together."""
    sums = _sums(plan, store, table)
    return max(sums, key=lambda row: sums[row])


def _sums(plan, store, table):
    """The dict from some rows of a table to how many rows their changes touch at all views together.

    The columns that other tables have, too, become more from view to view. So a row that touches most can be taken from
    the last view where it touches any: at its other columns it does not matter.
    """
    _check_store(plan, store)
    tallies = [Tally(plan, store, view, table) for view in plan.path(table)]
    rows = [tally.row_at(values) for tally in tallies for values in tally.counts]
    return {row: sum([tally.of_row(row) for tally in tallies]) for row in rows}


def is_history(store, value):
    """Whether the value is a history for a store."""
    if not isinstance(store, Store):
        raise InvalidStore("not a store")
    return is_told_history(value) and can_follow(store, value)


def _check_history(store, history):
    """Raise the error of what is no history for a store."""
    if not is_history(store, history):
        raise InvalidOperation("not a history for the store")


def run(plan, store, history):
    """The store behind a history, and the tuple of the numbers that its changes touch in a plan."""
    _check_store(plan, store)
    _check_history(store, history)
    keeper = Keeper(plan, store)
    touched = tuple([keeper(table, row) for _, table, row in history])
    return keeper.store, touched


def total_of(plan, store, history):
    """The sum of all numbers that the changes of a history touch in a plan."""
    _, touched = run(plan, store, history)
    return sum([sum(numbers) for numbers in touched])


def cheapest(store, history):
    """The least total of a history over all plans, and the ascending tuple of the texts of the plans that have it."""
    _check_history(store, history)
    check_few_plans(store.question)
    totals = totals_beside(list(each_plan(store.question)), store, history)
    least = min(list(totals.values()))
    return least, tuple(sorted([text for text in totals if totals[text] == least]))


def led_back(history):
    """The changes that lead back from behind a history: the opposite ones in the opposite order."""
    if not is_told_history(history):
        raise InvalidOperation("not a history for any store")
    return led_back_by(history)
