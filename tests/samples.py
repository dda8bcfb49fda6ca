"""What several tests use: the questions of the document, values of all kinds, and a strict look at errors."""

from touchrows.base.questions import Question
from touchrows.base.ratios import Ratio
from touchrows.data.stores import Store
from touchrows.keep.keepers import Keeper
from touchrows.plan.plans import Plan

TRI = Question({"r": ("a", "b"), "s": ("b", "c"), "t": ("a", "c")}, ())
STAR = Question({"r": ("a", "b"), "s": ("a", "c"), "u": ("a",)}, ("a",))
PATH = Question({"r": ("a", "b"), "s": ("b", "c"), "t": ("c", "d")}, ())
THREE = Store(TRI, {"r": ((1, 2), (1, 3)), "s": ((2, 5), (3, 5)), "t": ((1, 5),)})
PLAN = Plan.of_text(TRI, "((r s) t)")

LONGEST = 10 ** 60 - 1


def all_kinds():
    """Values of every kind that the document says is refused where it does not fit."""
    nested = ()
    for _ in range(7):
        nested = (nested,)
    return [
        None, True, False, 0, 1, -1, LONGEST, LONGEST + 1, -LONGEST - 1, 10 ** 99, "", "a", "A", "r s", "1/2", "\n",
        "~" * 4000, "a" * 4000, (), ("a",), (1, 2), ("a", None), [], ["a"], [[1]], {}, {"a": 1}, {1: 2},
        {None: ()}, {("a",): []}, nested, Ratio(1, 2), Ratio(3, 1), TRI,
        THREE, PLAN, Keeper(PLAN, THREE),
    ]


def kinds_but(*fitting):
    """The values of every kind that are of none of some classes; True and False count as their own class."""
    return [value for value in all_kinds() if type(value) not in fitting]


def shape_of(value):
    """What == passes over: the kinds of a value and of its parts, and the order of the keys of a dict."""
    if isinstance(value, (list, tuple)):
        return (type(value), [shape_of(part) for part in value])
    if isinstance(value, dict):
        return (dict, list(value), [shape_of(part) for pair in value.items() for part in pair])
    return type(value)


class Strict:
    """To be mixed into a test case."""

    def assertFails(self, error, call, *given, **named):
        """The call raises just this error, and not one derived from it; the error is returned."""
        with self.assertRaises(error) as caught:
            call(*given, **named)
        self.assertIs(type(caught.exception), error, (given, named))
        return caught.exception

    def assertKeeps(self, error, attribute, value, call, *given, **named):
        """The call raises just this error, which keeps the very value."""
        kept = getattr(self.assertFails(error, call, *given, **named), attribute)
        self.assertIs(type(kept), type(value))
        self.assertEqual(kept, value)

    def assertFirst(self, call, good, wrong):
        """The call takes the good arguments; of wrong ones, the first in the list raises its error.

        `wrong` is a list of triples: the place of an argument, a wrong value for it, and the error; what is checked first
        stands first. Each value stands in for the good one alone, and beside each one further down the list.
        """
        call(*good)
        for at, (place, value, error) in enumerate(wrong):
            given = [*good[:place], value, *good[place + 1:]]
            self.assertFails(error, call, *given)
            for other_place, other_value, _ in wrong[at + 1:]:
                if other_place != place:
                    self.assertFails(error, call, *given[:other_place], other_value, *given[other_place + 1:])

    def assertSame(self, told, wanted):
        """Equal, of equal kinds (True is not 1, a list is no tuple), and dicts with their keys in one order."""
        self.assertEqual(told, wanted)
        self.assertEqual(shape_of(told), shape_of(wanted))
