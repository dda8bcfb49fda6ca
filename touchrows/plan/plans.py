"""Plans: sets of views of which any two are apart, or one contains the other."""

from touchrows.base.questions import Question
from touchrows.base.views import columns_among, is_view
from touchrows.base.words import is_ascending_names
from touchrows.errors import InvalidOperation, InvalidPlan, InvalidQuestion, InvalidView, ParseError, UnknownName


class Plan:
    """A tree of views for a question; it never changes."""

    def __init__(self, question, views):
        if not isinstance(question, Question):
            raise InvalidQuestion("a plan is for a question")
        if not _is_views(views, question):
            raise InvalidPlan("there is no plan with such views")
        self._question = question
        self._views = _completed(views, question.names)
        self._children = {view: _children_of(view, self._views) for view in self._views}
        self._kept = {view: _kept_of(view, question) for view in self._views}
        self._met = {view: _met_of(view, self._children[view], self._kept, question) for view in self._views}
        self._text = _text_of(question.names, self._children)

    @classmethod
    def of_text(cls, question, text):
        """The plan for a question that has this text."""
        if not isinstance(question, Question):
            raise InvalidQuestion("a plan is for a question")
        views = _views_in(text)
        if not _is_views(views, question):
            raise ParseError(None)
        plan = cls(question, views)
        # Blanks, and the order of the children, have been passed over so far.
        if plan.text != text:
            raise ParseError(None)
        return plan

    @property
    def question(self):
        return self._question

    @property
    def views(self):
        return self._views

    @property
    def root(self):
        return self._question.names

    @property
    def text(self):
        return self._text

    def children(self, view):
        """The ascending tuple of the greatest views inside a view."""
        self._check_view(view)
        return self._children[view]

    def parent(self, view):
        """The least view around a view; None for the root."""
        self._check_view(view)
        around = [other for other in self._views if view in self._children[other]]
        return around[0] if around else None

    def kept(self, view):
        """The ascending tuple of the columns that are needed above a view, or asked for."""
        self._check_view(view)
        return self._kept[view]

    def met(self, view):
        """The ascending tuple of the columns that a view gets from below."""
        self._check_view(view)
        return self._met[view]

    def path(self, table):
        """The tuple of all views with a table, from below to the root."""
        if table not in self._question:
            raise UnknownName(table)
        return tuple(sorted([view for view in self._views if table in view], key=len))

    def open_columns(self, view, table):
        """The ascending tuple of the met columns of a view that a table in it does not have."""
        self._check_view(view)
        if table not in view:
            raise UnknownName(table)
        own = self._question.tables[table]
        return tuple([column for column in self._met[view] if column not in own])

    def with_view(self, view):
        """The plan with one view more."""
        self._check_tables(view)
        if view in self or not all([go_together(view, other) for other in self._views]):
            raise InvalidOperation("the view is there already, or does not go with another one")
        return Plan(self._question, (*self._views, view))

    def without_view(self, view):
        """The plan with one view less."""
        self._check_tables(view)
        if view not in self or len(view) in (1, len(self._question)):
            raise InvalidOperation("the view is not there, or stands in each plan")
        return Plan(self._question, tuple([other for other in self._views if other != view]))

    def over(self, question):
        """The plan with the same views for another question."""
        if not isinstance(question, Question):
            raise InvalidQuestion("a plan is for a question")
        if question.names != self._question.names:
            raise InvalidOperation("a plan goes over to a question with the same names of tables")
        return Plan(question, self._views)

    def _check_view(self, view):
        """Raise the error of what is no view of the plan."""
        if view not in self:
            raise InvalidView("not a view of the plan")

    def _check_tables(self, view):
        """Raise the error of what is no view of any plan."""
        if not is_view(self._question, view):
            raise InvalidView("a view is an ascending tuple of tables")

    def __contains__(self, value):
        return is_ascending_names(value) and value in self._kept

    def __len__(self):
        return len(self._views)

    def __iter__(self):
        return iter(self._views)

    def __eq__(self, other):
        return isinstance(other, Plan) and self._question == other._question and self._views == other._views

    def __str__(self):
        return f"{self._text}"


def flat_plan(question):
    """The plan for a question without further views."""
    return Plan(question, ())


def _holds(view, other):
    """Whether a view contains another one."""
    return all([table in view for table in other])


def go_together(view, other):
    """Whether one of two views contains the other, or they have no table in common."""
    return _holds(view, other) or _holds(other, view) or not any([table in view for table in other])


def _is_views(value, question):
    """Whether the value can be the views of a plan for a question."""
    # A tree with n leaves, of which each other node has several children, has at most 2 * n - 1 nodes.
    if not isinstance(value, tuple) or len(value) >= 2 * len(question):
        return False
    if not all([is_view(question, view) for view in value]):
        return False
    if len(set(list(value))) < len(value):
        return False
    return all([go_together(view, other) for view in value for other in value])


def _completed(views, names):
    """The ascending tuple of views, and of those that each plan has."""
    single = [(name,) for name in names]
    return tuple(sorted(set([*views, *single, names])))


def _children_of(view, views):
    """The ascending tuple of the greatest ones of the ascending views that a view contains, other than itself."""
    inside = [other for other in views if other != view and _holds(view, other)]
    return tuple([one for one in inside if not any([one != other and _holds(other, one) for other in inside])])


def _kept_of(view, question):
    """The ascending tuple of the kept columns of a view."""
    outside = columns_among(question, [name for name in question.names if name not in view])
    needed = (*question.groups, *outside)
    return tuple([column for column in columns_among(question, view) if column in needed])


def _met_of(view, children, kept, question):
    """The ascending tuple of the met columns of a view."""
    if not children:
        return columns_among(question, view)
    return tuple(sorted({column for child in children for column in kept[child]}))


def _text_of(view, children):
    """The text of a view, by the dict of the children of all views."""
    if not children[view]:
        return view[0]
    inside = " ".join([_text_of(child, children) for child in children[view]])
    return f"({inside})"


def _views_in(text):
    """The tuple of the views that the pairs of parentheses in a text hold; None for a value that is no text."""
    if not isinstance(text, str):
        return None
    begun, views = [], []
    for word in text.replace("(", " ( ").replace(")", " ) ").split():
        if word == "(":
            begun.append([])
        elif begun and word != ")":
            begun[-1].append(word)
        elif begun:
            tables = begun.pop()
            views.append(tuple(sorted(tables)))
            if begun:
                begun[-1].extend(tables)
    return tuple(views)
