"""The errors of the package, each derived directly from the error that the document names."""


class TouchError(ValueError):
    """What all errors about a malformed argument have in common."""


class InvalidRatio(TouchError):
    """No ratio, or no tuple of ratios."""


class InvalidQuestion(TouchError):
    """No question, or a question that cannot be."""


class InvalidRow(TouchError):
    """No row of the columns of a table."""


class InvalidStore(TouchError):
    """No store, or a store that cannot be."""


class InvalidView(TouchError):
    """No view, or none of the plan at hand."""


class InvalidPlan(TouchError):
    """No plan, or a plan that cannot be."""


class InvalidWeights(TouchError):
    """No weights, or none of the wanted sort."""


class InvalidOperation(TouchError):
    """A call that does not go with its object or its other arguments."""


class ParseError(TouchError):
    """A text that cannot be read; `number` is the index of the line at fault, or None."""

    def __init__(self, number):
        self.number = number


class UnknownName(KeyError):
    """A value that was looked up and is not there."""

    def __init__(self, word):
        self.word = word


class RowThere(LookupError):
    """A row that is put where it stands already."""

    def __init__(self, placed):
        self.placed = placed


class RowAbsent(LookupError):
    """A row that is taken from where it does not stand."""

    def __init__(self, missed):
        self.missed = missed


class InvalidNumber(IndexError):
    """A value that is not a number of the wanted range."""

    def __init__(self, value):
        self.value = value


class NothingToUndo(RuntimeError):
    """More steps back, or forward again, than there are."""

    def __init__(self, many):
        self.many = many


class TooMany(OverflowError):
    """More than a limit allows."""

    def __init__(self, limit):
        self.limit = limit


class Refused(ArithmeticError):
    """A change that a pledge forbids."""

    def __init__(self, pledge):
        self.pledge = pledge
