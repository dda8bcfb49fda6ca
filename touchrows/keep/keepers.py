"""Keepers: the contents of all views of a plan, kept while single rows are put in and taken out."""

from touchrows.data.stores import MAX_READINGS, Store, is_row_of
from touchrows.errors import InvalidPlan, InvalidRow, InvalidStore, InvalidView, UnknownName
from touchrows.keep.flows import all_contents, met_rows, risen, touched_numbers
from touchrows.plan.plans import Plan


class Keeper:
    """A plan, a store that changes, and the contents of all views in it."""

    def __init__(self, plan, store):
        if not isinstance(plan, Plan):
            raise InvalidPlan("a keeper is for a plan")
        if not isinstance(store, Store) or store.question != plan.question:
            raise InvalidStore("a keeper begins with a store for the question of its plan")
        self._plan = plan
        self._store = store
        self._contents = all_contents(plan, store)
        self._changes = []
        self._total = 0

    @property
    def plan(self):
        return self._plan

    @property
    def store(self):
        return self._store

    @property
    def result(self):
        return self[self._plan.root]

    @property
    def total(self):
        return self._total

    @property
    def changes(self):
        return tuple(self._changes)

    def put(self, table, row):
        """Put a row into a table; the tuple of the numbers of rows that this touches, from below to the root."""
        store = self._store.with_row(table, row)
        limits = {view: MAX_READINGS - sum(self._contents[view].values()) for view in self._plan.path(table)}
        return self._carried_out("put", table, row, store, limits)

    def take(self, table, row):
        """Take a row out of a table; the numbers as of `put`."""
        store = self._store.without_row(table, row)
        return self._carried_out("take", table, row, store, {})

    def _carried_out(self, word, table, row, store, limits):
        """Carry out a change that leads to a store; the numbers of rows that it touches."""
        # What can be refused is refused in here, ahead of all that changes.
        triples = risen(self._plan, self._plan.path(table), row, self._contents, limits)
        for view, _, added in triples:
            self._add(view, added, 1 if word == "put" else -1)
        touched = tuple([triple[1] for triple in triples])
        self._store = store
        self._changes.append((word, table, row))
        self._total = self._total + sum(touched)
        return touched

    def _add(self, view, added, sign):
        """Add some contents to those of a view, or take them away."""
        contents = self._contents[view]
        for kept, count in added.items():
            left = contents.get(kept, 0) + sign * count
            if left:
                contents[kept] = left
            else:
                del contents[kept]

    def __call__(self, table, row):
        if self._store.has_row(table, row):
            return self.take(table, row)
        return self.put(table, row)

    def foreseen(self, table, row):
        """The numbers of rows that the change of a row would touch."""
        path = self._plan.path(table)
        self._check_row(table, row)
        return touched_numbers(self._plan, path, row, self._contents)

    def touched_rows(self, view, table, row):
        """The ascending tuple of the rows that the change of a row would touch at a view."""
        if view not in self._plan:
            raise InvalidView("not a view of the plan")
        if table not in view:
            raise UnknownName(table)
        self._check_row(table, row)
        if len(view) == 1:
            return (row,)
        path = [below for below in self._plan.path(table) if len(below) < len(view)]
        changed = {below: self._contents[below] for below in self._contents}
        for below, _, added in risen(self._plan, path, row, self._contents, {}):
            changed[below] = added
        return tuple([told for told, _ in met_rows(self._plan, view, changed)])

    def _check_row(self, table, row):
        """Raise the error of what is no row of a table."""
        if not is_row_of(self._plan.question, table, row):
            raise InvalidRow("a row of a table has an integer for each of its columns")

    def twin(self):
        """An independent copy."""
        made = Keeper(self._plan, Store(self._plan.question, {}))
        made._store = self._store
        made._contents = {view: {row: kept[row] for row in kept} for view, kept in self._contents.items()}
        made._changes = list(self._changes)
        made._total = self._total
        return made

    def __getitem__(self, at):
        if at not in self._plan:
            raise InvalidView("not a view of the plan")
        contents = self._contents[at]
        return {row: contents[row] for row in sorted(contents)}

    def __iter__(self):
        raise TypeError("a keeper is not iterated over")

    def __len__(self):
        return len(self._changes)

    def __eq__(self, other):
        return (
            isinstance(other, Keeper)
            and self._plan == other._plan
            and self._store == other._store
            and self._changes == other._changes
        )

    def __str__(self):
        return f"keeper of {self._plan.text}, {len(self._store)} rows, {self._total} touched"
