"""The whole program: [0.2] and [0.4] for all that the document lists, and its parts beside one another."""

import copy
import fractions
import importlib
import inspect
import math
import unittest

from tests.force import drawn_history, drawn_questions, drawn_store, fraction, many
from tests.samples import PATH, PLAN, STAR, THREE, TRI, Strict, all_kinds, shape_of
from tests.test_interface import DEFINED, METHOD_PARAMETERS
from tests.test_shell import Twin, drawn_command
from touchrows import errors
from touchrows.base.questions import Question
from touchrows.base.ratios import Ratio
from touchrows.best.least import bill, each_least_plan, least_degree
from touchrows.best.nested import crossing, is_constant
from touchrows.data.stores import Store, answer_of
from touchrows.errors import (
    InvalidNumber, InvalidOperation, InvalidPlan, InvalidQuestion, InvalidRatio, InvalidRow, InvalidStore, InvalidView, InvalidWeights,
    NothingToUndo, ParseError, UnknownName,
)
from touchrows.keep.dear import cheapest, led_back, most_in_all, run, total_of
from touchrows.keep.keepers import Keeper
from touchrows.plan.plans import Plan, flat_plan
from touchrows.plan.shapes import each_plan
from touchrows.text.shell import Shell
from touchrows.text.texts import read_question, read_store, write_question, write_store
from touchrows.use.bench import Bench
from touchrows.weigh.never import peak_in
from touchrows.weigh.rooms import degrees
from touchrows.weigh.totals import total_degree
from touchrows.weigh.weights import degree

RS = ("r", "s")
HISTORY = (("put", "s", (2, 7)), ("take", "r", (1, 2)))
COLUMN = (("c", (1, 1)),)
TABLE = (("r", (1, 2)), ("s", (1, 1)))

# A good argument for each parameter, and the error of a wrong one; what differs for one function stands below.
GOOD = {
    "plan": PLAN, "other": flat_plan(TRI), "view": RS, "above": TRI.names, "table": "r", "question": TRI, "store": THREE, "row": (1, 2), "weights": COLUMN,
    "number": 2, "history": HISTORY, "value": None, "told": crossing(TRI), "many": 3, "change": HISTORY[0], "groups": ("a",), "column": "a",
    "name": "r", "size": Ratio(1, 2), "columns": ("a", "b"), "ratios": (Ratio(1, 2), Ratio(1, 3)), "top": 1, "bottom": 2,
    "tables": {"r": ("a", "b")}, "rows": {"r": ((1, 2),)}, "views": (RS,), "counts": {"r": 5, "s": 7}, "pledge": ("all", (1, 1)),
}
WRONG = {
    "plan": InvalidPlan, "other": InvalidPlan, "view": InvalidView, "above": InvalidView, "table": UnknownName, "question": InvalidQuestion,
    "store": InvalidStore, "row": InvalidRow, "weights": InvalidWeights, "number": InvalidNumber, "history": InvalidOperation, "told": InvalidOperation,
    "many": InvalidNumber, "change": InvalidOperation, "groups": InvalidQuestion, "column": UnknownName, "name": UnknownName, "size": InvalidQuestion,
    "columns": InvalidQuestion, "ratios": InvalidRatio, "top": InvalidRatio, "bottom": InvalidRatio, "tables": InvalidQuestion, "rows": InvalidStore,
    "views": InvalidPlan, "counts": InvalidOperation, "text": ParseError, "pledge": InvalidOperation,
}
GOOD_HERE = {
    "price": {"weights": TABLE}, "bound": {"weights": TABLE}, "write_weights": {"weights": TABLE}, "plan_at": {"number": 1},
    "growing_history": {"weights": (("a", (1, 2)), ("c", (1, 1)))}, "touched_by_puts": {"history": HISTORY[:1]}, "plan_with": {"value": bill(PLAN)},
    "write_witness": {"value": (5, THREE, (1, 2))}, "read_question": {"text": write_question(TRI)}, "Shell": {"text": write_question(TRI)},
    "read_store": {"text": write_store(THREE)}, "read_weights": {"text": "r 1/2"}, "read_change": {"text": "put r 1"}, "erase": {"view": RS},
    "read_witness": {"text": "5\n1\nempty"}, "Question.renamed": {"tables": {"r": "x", "s": "y", "t": "z"}, "columns": {"a": "d", "b": "e", "c": "f"}},
    "Question.with_table": {"name": "u"}, "Store.with_row": {"row": (8, 8)}, "Keeper.put": {"row": (8, 8)}, "Plan.with_view": {"view": RS},
    "Plan.without_view": {"view": RS}, "Bench.draw": {"view": RS}, "Bench.erase": {"view": RS},
}
WRONG_HERE = {
    "plan_with": {"value": InvalidOperation}, "write_witness": {"value": InvalidOperation}, "Question.renamed": {"tables": InvalidOperation, "columns": InvalidOperation},
    "Question.with_table": {"name": InvalidQuestion}, "Plan.path": {"table": UnknownName},
}
# Arguments of all kinds that nevertheless fit.
FITTING = {
    "column": ("a",), "table": (), "view": (), "weights": ((),), "history": ((),), "row": ((1, 2),), "counts": (), "groups": ((), ("a",)), "columns": (("a",),), "ratios": ((),),
    "number": (1,), "many": (0, 1), "name": (), "rows": ({},), "views": ((), ("a",)), "top": (0, 1, -1), "bottom": (1,), "tables": (), "size": (Ratio(1, 2), Ratio(3, 1)),
}
FITTING_HERE = {
    "plan_at": {"number": (0, 1)}, "Question.with_table": {"name": ("a",)}, "Store.fits": {"number": (1,)}, "read_weights": {"text": ()},
}
METHODS = {
    "Question": lambda: TRI, "Store": lambda: THREE, "Plan": lambda: PLAN, "Keeper": lambda: Keeper(PLAN, THREE), "Bench": lambda: Bench(PLAN),
}


def is_fitting(name, parameter, value):
    """Whether one of the values of all kinds can stand for a parameter."""
    fitting = FITTING_HERE.get(name, {}).get(parameter, FITTING.get(parameter, ()))
    kinds = {"plan": Plan, "other": Plan, "question": Question, "store": Store}
    if isinstance(value, kinds.get(parameter, ())):
        return True
    if parameter == "number" and name not in ("plan_at",) and type(value) is int and 1 <= value <= 1000:
        return True
    if name == "Store.fits" and type(value) is int and 1 <= value < 10 ** 60:
        return True
    if parameter in ("top", "bottom") and type(value) is int and abs(value) < 10 ** 60 and (value > 0 or parameter == "top"):
        return True
    return any(type(value) is type(one) and value == one for one in fitting)


def calls():
    """All functions, classes and methods with parameters: a name, what makes the call, and the names of the parameters."""
    for module, names in DEFINED.items():
        for name, parameters in names.items():
            call = getattr(importlib.import_module(module), name)
            if parameters and not (inspect.isclass(call) and issubclass(call, Exception)):
                told = [one for one in parameters.split(", ")]
                told = told[:told.index("*")] if "*" in told else told
                yield name, (lambda call=call: (lambda *given: list(call(*given)) if inspect.isgeneratorfunction(call) else call(*given))), told
    for place, methods in METHOD_PARAMETERS.items():
        kind = place.rpartition(".")[2]
        for name, parameters in methods.items():
            if kind in METHODS and parameters and "*" not in parameters and name not in ("during",):
                yield f"{kind}.{name}", (lambda kind=kind, name=name: getattr(made(kind, name), name)), parameters.split(", ")


def made(kind, name):
    """An object whose method is called."""
    if name in ("with_view", "draw"):
        return flat_plan(TRI) if kind == "Plan" else Bench(flat_plan(TRI))
    told = METHODS[kind]()
    if name == "waive":
        told.demand(("all", (1, 1)))
    return told


def good_arguments(name, parameters):
    return [copy.copy(GOOD_HERE.get(name, {}).get(one, GOOD.get(one))) for one in parameters]


def is_same(one, other):
    """Whether two results are equal, also those without an == of their own."""
    if isinstance(one, Shell):
        return one.bench() == other.bench() and one.keeper() == other.keeper() and len(one) == len(other)
    return type(one) is type(other) and one == other


class Everything(Strict, unittest.TestCase):
    def test_all_are_called(self):
        names = [name for name, _, _ in calls()]
        self.assertGreater(len(names), 120)
        self.assertEqual(len(names), len(set(names)))

    def test_equal_calls_return_equal_results(self):
        for name, make, parameters in calls():
            given = good_arguments(name, parameters)
            before = [(shape_of(one), str(one)) for one in given]
            first, second = make()(*given), make()(*given)
            self.assertTrue(is_same(first, second), name)
            self.assertEqual([(shape_of(one), str(one)) for one in given], before, name)
            if isinstance(first, (dict, list)):
                first.clear()
                self.assertTrue(is_same(make()(*given), second), name)

    def test_what_is_passed_can_change_later(self):
        tables, sizes, rows = {"r": ("a",)}, {"r": Ratio(1, 2)}, {"r": ((1,),)}
        question = Question(tables, (), sizes=sizes)
        store = Store(question, rows)
        for one in (tables, sizes, rows, question.tables, question.sizes, store.rows):
            one.clear()
        self.assertEqual([question.tables, question.sizes, store.rows], [{"r": ("a",)}, {"r": Ratio(1, 2)}, {"r": ((1,),)}])

    def test_wrong_arguments(self):
        refused = 0
        for name, make, parameters in calls():
            for at, parameter in enumerate(parameters):
                if parameter in ("value", "line", "call") and "value" not in WRONG_HERE.get(name, {}):
                    continue
                error = WRONG_HERE.get(name, {}).get(parameter, WRONG.get(parameter))
                error = InvalidRatio if parameter == "text" and name == "Ratio" else error
                given = good_arguments(name, parameters)
                for value in all_kinds():
                    if not is_fitting(name, parameter, value):
                        with self.subTest(name, parameter=parameter, value=str(value)[:40]):
                            self.assertFails(error, make(), *given[:at], value, *given[at + 1:])
                            refused += 1
        self.assertGreater(refused, 5000)

    def test_judges_take_every_value(self):
        for name, make, parameters in calls():
            word = name.rpartition(".")[2]
            if word.startswith("is_") or word == "has_row":
                self.assertEqual(parameters[-1:] if parameters[-1] == "value" else parameters[-1:], [parameters[-1]])
                if parameters[-1] != "value":
                    continue
                given = good_arguments(name, parameters)
                for value in all_kinds():
                    self.assertIn(make()(*given[:-1], value), (True, False))
                    self.assertIs(type(make()(*given[:-1], value)), bool, name)

    def test_membership_and_equality_take_every_value(self):
        bench = Bench(PLAN)
        bench.demand(("all", (1, 1)))
        for one in (TRI, THREE, PLAN, bench):
            for value in all_kinds():
                self.assertIs(type(value in one), bool)
        for one in (TRI, THREE, PLAN, bench, Ratio(1, 2), Keeper(PLAN, THREE)):
            for value in all_kinds():
                self.assertIs(type(one == value), bool)
                self.assertIs(one != value, not one == value)

    def test_only_some_are_iterated_over(self):
        for one in (Ratio(1, 2), Keeper(PLAN, THREE), Shell(write_question(TRI))):
            self.assertFails(TypeError, iter, one)
        for one in (TRI, THREE, PLAN, Bench(PLAN)):
            self.assertEqual(list(one), list(one))
            self.assertEqual(len(one), 3 if one is TRI else len(list(one)))

    def test_errors_are_those_of_the_document(self):
        told = [value for value in vars(errors).values() if inspect.isclass(value) and issubclass(value, Exception)]
        self.assertEqual(len(told), 17)


class Sessions(Strict, unittest.TestCase):
    def test_told_again_by_texts_alone(self):
        for draw, question in drawn_questions(30, "sessions", sizes=True):
            shell, twin, told = Shell(write_question(question)), Twin(question), []
            for _ in range(40):
                line, _ = drawn_command(draw, Twin(question) if draw.random() < 0.3 else twin)
                told.append((line, shell(line)))
                twin.bench, twin.keeper = shell.bench(), shell.keeper()
            again = Shell(write_question(question))
            self.assertEqual([again(line) for line, _ in told], [answer for _, answer in told])
            self.assertEqual([again.bench(), again.keeper(), len(again)], [shell.bench(), shell.keeper(), len(shell)])
            self.check_rebuilt(shell)

    def check_rebuilt(self, shell):
        """A new shell, by what the old one tells of itself, answers alike."""
        question = read_question(shell("question").replace("; ", "\n"))
        store = read_store(question, shell("store").replace("; ", "\n"))
        plan = Plan.of_text(question, shell("plan"))
        again = Shell(write_question(question))
        for view in plan.views:
            if 1 < len(view) < len(question):
                self.assertNotIn(again("draw " + " ".join(view)), ("view", "operation"))
        for table, row in store:
            again(" ".join(["put", table, *map(str, row)]))
        for pledge in shell("pledges").split("; "):
            self.assertIn(again(f"demand {pledge}"), ("nothing", "what") if pledge == "nothing" else ("nothing",))
        for line in ("question", "plan", "store", "pledges", "answer", "degrees", "all", "room", "constant", "crossing", "least"):
            self.assertSame(again(line), shell(line))
        self.assertEqual(again.bench(), shell.bench())


class Beside(Strict, unittest.TestCase):
    def test_all_plans_on_one_history(self):
        for draw, question in drawn_questions(40, "beside", sizes=False):
            store = drawn_store(draw, question, 3)
            history = drawn_history(draw, store, 12)
            totals = {}
            for plan in each_plan(question):
                keeper, bounds = Keeper(plan, store), degrees(plan)
                for word, table, row in history:
                    peak = peak_in(keeper.store, plan, table, row)
                    most = most_in_all(plan, keeper.store, table)
                    larger = keeper.store if word == "take" else keeper.store + (table, row)
                    numbers = keeper(table, row)
                    size = max(map(len, larger.rows.values()))
                    self.assertEqual(max(numbers), peak)
                    self.assertLessEqual(sum(numbers), most)
                    told = bounds[table]
                    self.assertLessEqual(max(numbers) ** told.bottom, size ** told.top)
                    if is_constant(plan):
                        self.assertLessEqual(max(numbers), 1)
                self.assertSame(keeper.result, answer_of(keeper.store))
                self.assertEqual(run(plan, store, history)[0], keeper.store)
                totals[plan.text] = total_of(plan, store, history)
                self.assertEqual(totals[plan.text], keeper.total)
                self.assertEqual(run(plan, keeper.store, led_back(history))[0], store)
            least, texts = cheapest(store, history)
            self.assertEqual((least, set(texts)), (min(totals.values()), {text for text in totals if totals[text] == least}))

    def test_what_is_not_true(self):
        # [0.21], each with what shows that it is not.
        whole = flat_plan(TRI.with_table("u", ("d",)).with_groups(("a", "b", "c")))
        self.assertSame(str(degree(whole, whole.root, "u")), "3/2")
        deeper = flat_plan(TRI).with_view(RS)
        self.assertTrue(degrees(deeper)["t"].is_less(degrees(flat_plan(TRI))["t"]))
        self.assertFalse([plan for plan in each_plan(TRI) if not any(degrees(plan).values())])
        first = run(PLAN, Store(TRI, {}), (("put", "r", (1, 2)), ("put", "s", (2, 5)), ("take", "r", (1, 2))))[1]
        self.assertNotEqual(first[0], first[2])
        less = PATH.with_size("r", Ratio(1, 2)).with_size("s", Ratio(1, 2)).with_size("t", Ratio(1, 2))
        self.assertTrue(least_degree(less) and least_degree(less).is_less(Ratio(1, 1)))

    def test_least_plans_are_found_by_a_bench(self):
        for draw in many(20, "found"):
            question = draw.choice((TRI, STAR, PATH, PATH.with_groups(("a", "d"))))
            bench = Bench(flat_plan(question))
            plan = draw.choice(list(each_least_plan(question)))
            for view in plan.views:
                if view not in bench:
                    bench.draw(view)
            self.assertEqual(bench.plan, plan)
            self.assertSame(bench.demand(("all", least_degree(question).pair)), ())
            self.assertEqual(max(fractions.Fraction(*pair) for pair in bench.costs), fraction(least_degree(question)))
            with self.assertRaises(NothingToUndo):
                bench.undo(many=50)

    def test_totals_are_at_most_degree_and_size(self):
        for _, question in drawn_questions(20, "both", sizes=True):
            for plan in each_plan(question):
                for table in question.names:
                    total = fraction(total_degree(plan, plan.root, table))
                    single = fraction(degree(plan, plan.root, table))
                    self.assertTrue(single <= total <= single + fraction(question.sizes[table]))
        self.assertEqual(math.comb(4, 2), 6)
