"""A bench: a plan that is worked on, with pledges that it keeps, and with steps back and forth."""

from touchrows.base.words import is_count
from touchrows.best.least import bill
from touchrows.errors import InvalidNumber, InvalidOperation, NothingToUndo, Refused, TooMany
from touchrows.use.pledges import holds, is_pledge, stands_among

MAX_PLEDGES = 10


class Line:
    """All that a bench was, is and can be again; it never changes."""

    def __init__(self, stands, now):
        self.stands = stands
        self.now = now
        self.tree, self.vows, self.charges = stands[now]
        self.shown = self.tree.views


class Saved:
    """The line of a bench ahead of a trial, and what the same trial has saved before."""

    def __init__(self, line, older):
        self.line = line
        self.older = older


class Trial:
    """What a bench is led back by behind a block."""

    def __init__(self, held):
        self.held = held
        self.saved = None

    def __enter__(self):
        self.saved = Saved(self.held.line, self.saved)
        return self.held

    def __exit__(self, kind, value, trace):
        held = self.held
        saved = self.saved
        held.line = saved.line
        self.saved = saved.older


class Bench:
    """A plan, its pledges, and the changes that can be taken back and done again."""

    def __init__(self, plan):
        self.line = Line(((plan, (), bill(plan)),), 0)

    @property
    def plan(self):
        return self.line.tree

    @property
    def question(self):
        return self.line.tree.question

    @property
    def costs(self):
        return self.line.charges

    @property
    def pledges(self):
        return self.line.vows

    def draw(self, view):
        """Add a view to the plan; the news."""
        return self._changed(self.plan.with_view(view))

    def erase(self, view):
        """Leave a view out of the plan; the news."""
        return self._changed(self.plan.without_view(view))

    def resize(self, name, size):
        """Give a table another size; the news."""
        return self._changed(self.plan.over(self.question.with_size(name, size)))

    def regroup(self, groups):
        """Give the question other group columns; the news."""
        return self._changed(self.plan.over(self.question.with_groups(groups)))

    def _changed(self, plan):
        """Go on with another plan, if all pledges hold for it; the news."""
        for pledge in self.pledges:
            if not holds(pledge, plan):
                raise Refused(pledge)
        return self._stepped(plan, self.pledges, bill(plan))

    def demand(self, pledge):
        """Keep a pledge from now on; the news."""
        if not is_pledge(pledge) or pledge in self.pledges:
            raise InvalidOperation("not a pledge, or there already")
        if len(self.pledges) == MAX_PLEDGES:
            raise TooMany(MAX_PLEDGES)
        if not holds(pledge, self.plan):
            raise Refused(pledge)
        return self._stepped(self.plan, (*self.pledges, pledge), self.costs)

    def waive(self, pledge):
        """Keep a pledge no longer; the news."""
        if not stands_among(self.pledges, pledge):
            raise InvalidOperation("not a pledge that is there")
        return self._stepped(self.plan, tuple([other for other in self.pledges if other != pledge]), self.costs)

    def _stepped(self, plan, pledges, costs):
        """Carry out a change, behind which nothing is left to be done again; the news."""
        line = self.line
        stands = line.stands[:line.now + 1]
        return self._moved(Line((*stands, (plan, pledges, costs)), line.now + 1))

    def _moved(self, line):
        """Go on with another line; the news."""
        before = self.costs
        self.line = line
        return () if self.costs == before else (before, self.costs)

    def undo(self, *, many=1):
        """Take back so many changes; the news."""
        line = self.line
        _check_many(many, line.now)
        return self._moved(Line(line.stands, line.now - many))

    def redo(self, *, many=1):
        """Do so many changes again that were taken back; the news."""
        line = self.line
        _check_many(many, len(line.stands) - 1 - line.now)
        return self._moved(Line(line.stands, line.now + many))

    def trial(self):
        """What can be entered by `with`: behind its block, the bench is as it was ahead of it."""
        return Trial(self)

    def during(self, call):
        """What a call with the bench returns, behind which the bench is as it was."""
        with self.trial() as same:
            return call(same)

    def twin(self):
        """An independent copy."""
        made = Bench(self.plan)
        made.line = self.line
        return made

    def __contains__(self, value):
        return value in self.plan or stands_among(self.pledges, value)

    def __len__(self):
        return len(self.line.shown)

    def __iter__(self):
        return iter(self.line.shown)

    def __eq__(self, other):
        return isinstance(other, Bench) and self.plan == other.plan and self.pledges == other.pledges

    def __str__(self):
        return f"bench of {self.plan}, {len(self.pledges)} pledges"


def _check_many(many, most):
    """Raise the error of what is no number of changes, or of more changes than there are."""
    if not is_count(many):
        raise InvalidNumber(many)
    if many > most:
        raise NothingToUndo(many)
