"""Everything that the interface lists exists under its name, in the file of its module."""

import importlib
import inspect
import unittest

ERRORS = (
    "TouchError InvalidRatio InvalidQuestion InvalidRow InvalidStore InvalidView InvalidPlan InvalidWeights "
    "InvalidOperation ParseError UnknownName RowThere RowAbsent InvalidNumber NothingToUndo TooMany Refused"
)
DEFINED = {
    "touchrows.errors": {name: "" for name in ERRORS.split()},
    "touchrows.base.words": {"is_integer": "value", "is_count": "value", "is_name": "value"},
    "touchrows.base.ratios": {"Ratio": "top, bottom", "sum_of": "ratios", "greatest_of": "ratios"},
    "touchrows.base.questions": {"Question": "tables, groups, *, sizes=None"},
    "touchrows.data.stores": {
        "Store": "question, rows", "readings": "store, *, among=None", "count_readings": "store", "answer_of": "store",
    },
    "touchrows.plan.plans": {"Plan": "question, views", "flat_plan": "question"},
    "touchrows.plan.shapes": {
        "count_plans": "question", "each_plan": "question", "plan_at": "question, number", "number_of": "plan",
    },
    "touchrows.keep.keepers": {"Keeper": "plan, store"},
    "touchrows.weigh.weights": {
        **{name: "plan, view, table" for name in ("degree", "covering", "filling")},
        **{f"is_{name}": "plan, view, table, value"
           for name in ("covering", "filling", "least_covering", "greatest_filling")},
        "price": "plan, weights", "worth": "weights", "bound": "weights, counts",
    },
    "touchrows.weigh.rooms": {
        **{name: "plan, view" for name in ("room", "room_covering", "room_filling")},
        **{name: "plan, view, value" for name in ("is_room_covering", "is_room_filling")},
        **{name: "plan" for name in ("degrees", "plan_degree", "plan_room")}, "table_degree": "plan, table",
    },
    "touchrows.weigh.worst": {
        "spread": "plan, view, table, weights", "worst_row": "plan, table", "is_witness": "plan, view, table, value",
        **{name: "plan, view, table, weights, number" for name in ("worst_store", "worst_touched", "witness")},
    },
    "touchrows.weigh.never": {
        "touched_in": "store, plan, view, table, row", "peak_in": "store, plan, table, row",
        **{name: "plan, view, other, above, table" for name in ("is_never_more", "parting_store")},
        "is_parting": "plan, view, other, above, table, value", "is_dearer": "plan, other, table, value",
        **{name: "plan, other, table" for name in ("is_no_dearer", "dearer_store")},
    },
    "touchrows.best.nested": {
        "is_constant": "plan", "crossing_degree": "plan, told", "is_crossing_degree": "plan, told, value",
        **{name: "question" for name in ("constant_plan", "has_constant_plan", "crossing", "each_crossing")},
        "is_crossing": "question, value",
    },
    "touchrows.best.least": {
        **{name: "question" for name in ("least_degree", "least_plan", "each_least_plan", "front")}, "bill": "plan",
        **{name: "question, value" for name in ("is_least_plan", "plan_with", "is_lean")},
        **{name: "question, table" for name in ("least_for", "plan_for")},
    },
    "touchrows.keep.dear": {
        **{name: "plan, store, view, table" for name in ("most_touched", "dearest_row")},
        "is_dearest_row": "plan, store, view, table, value", "is_history": "store, value", "cheapest": "store, history",
        **{name: "plan, store, table" for name in ("most_in_all", "dearest_in_all")}, "led_back": "history",
        **{name: "plan, store, history" for name in ("run", "total_of")},
    },
    "touchrows.use.bench": {"Bench": "plan"},
    "touchrows.text.texts": {
        "write_question": "question", "write_store": "store", "write_weights": "weights", "write_change": "change",
        "write_witness": "value", **{f"read_{name}": "text" for name in ("question", "weights", "change")},
        **{f"read_{name}": "question, text" for name in ("store", "witness")},
    },
    "touchrows.text.shell": {"Shell": "text"},
    "touchrows.weigh.totals": {
        **{name: "plan, view, table" for name in ("total_columns", "total_degree", "total_covering", "total_filling")},
        **{name: "plan, view, table, value" for name in ("is_total_covering", "is_total_filling")},
        "table_total": "plan, table", "plan_total": "plan", "growing_history": "plan, view, table, weights, number",
        "touched_by_puts": "plan, history, view, table",
    },
    "touchrows.best.growing": {
        **{name: "question" for name in ("least_total", "least_total_plan", "each_least_total_plan")},
        "is_least_total_plan": "question, value", "saving": "plan, view, table",
        "repeated_changes": "plan, view, table, weights, number, many",
    },
}
# Parameters of methods; those of the signs are checked by using them.
METHOD_PARAMETERS = {
    "touchrows.base.questions.Question": {
        "tables_with": "column", "with_table": "name, columns", "with_size": "name, size", "with_groups": "groups",
        "without_table": "name", "renamed": "tables, columns",
    },
    "touchrows.data.stores.Store": {
        "has_row": "table, value", "with_row": "table, row", "without_row": "table, row", "fits": "number",
    },
    "touchrows.plan.plans.Plan": {
        "children": "view", "parent": "view", "kept": "view", "met": "view", "path": "table", "open_columns": "view, table",
        "with_view": "view", "without_view": "view", "over": "question",
    },
    "touchrows.keep.keepers.Keeper": {
        "put": "table, row", "take": "table, row", "foreseen": "table, row", "touched_rows": "view, table, row", "twin": "",
        "__call__": "table, row",
    },
    "touchrows.use.bench.Bench": {
        **{name: "view" for name in ("draw", "erase")}, "resize": "name, size", "regroup": "groups", "trial": "", "twin": "",
        **{name: "pledge" for name in ("demand", "waive")}, **{name: "*, many=1" for name in ("undo", "redo")}, "during": "call",
    },
    "touchrows.text.shell.Shell": {"answer": "line", "__call__": "line", "bench": "", "keeper": ""},
}
CONSTANTS = {
    "touchrows.base.words": {"MAX_LETTERS": 8, "MAX_FIGURES": 60},
    "touchrows.base.questions": {"MAX_TABLES": 6, "MAX_COLUMNS": 8, "MAX_SIZE": 9},
    "touchrows.data.stores": {"MAX_ROWS": 2000, "MAX_READINGS": 100000},
    "touchrows.weigh.worst": {"MAX_GROWTH": 1000},
    "touchrows.best.least": {"MAX_PLANS": 300},
    "touchrows.use.bench": {"MAX_PLEDGES": 10},
}
METHODS = {
    "touchrows.base.ratios.Ratio": (
        "over is_less __add__ __sub__ __mul__ __neg__ __bool__ __eq__ __str__", "of_text", "top bottom pair",
    ),
    "touchrows.base.questions.Question": (
        "tables_with with_table with_size with_groups without_table renamed __len__ __iter__ __contains__ __eq__ __str__",
        "from_lines", "tables sizes groups names columns lines",
    ),
    "touchrows.data.stores.Store": (
        "has_row with_row without_row fits __add__ __sub__ __contains__ __len__ __iter__ __eq__ __str__", "", "question rows",
    ),
    "touchrows.plan.plans.Plan": (
        "children parent kept met path open_columns with_view without_view over __contains__ __len__ __iter__ __eq__ __str__",
        "of_text", "question views root text",
    ),
    "touchrows.keep.keepers.Keeper": (
        "put take foreseen touched_rows twin __call__ __getitem__ __len__ __eq__ __str__", "",
        "plan store result total changes",
    ),
    "touchrows.use.bench.Bench": (
        "draw erase resize regroup demand waive undo redo trial during twin __contains__ __len__ __iter__ __eq__ __str__", "",
        "plan question costs pledges",
    ),
    "touchrows.text.shell.Shell": ("answer bench keeper __call__ __len__", "", ""),
}


def found(place):
    """The class or function with a dotted name."""
    module, _, name = place.rpartition(".")
    return getattr(importlib.import_module(module), name)


class Interface(unittest.TestCase):
    def test_defined_in_the_file_of_the_module(self):
        for module, names in DEFINED.items():
            for name in names:
                with self.subTest(module, name=name):
                    self.assertEqual(found(f"{module}.{name}").__module__, module)

    def test_parameters(self):
        for module, names in DEFINED.items():
            for name, parameters in names.items():
                if parameters:
                    with self.subTest(module, name=name):
                        self.assertEqual(str(inspect.signature(found(f"{module}.{name}"))), f"({parameters})")

    def test_parameters_of_methods(self):
        for place, methods in METHOD_PARAMETERS.items():
            for name, parameters in methods.items():
                with self.subTest(place, name=name):
                    wanted = f"(self, {parameters})" if parameters else "(self)"
                    self.assertEqual(str(inspect.signature(getattr(found(place), name))), wanted)

    def test_constants(self):
        for module, names in CONSTANTS.items():
            for name, value in names.items():
                self.assertEqual(found(f"{module}.{name}"), value)

    def test_methods_stand_in_the_class_itself(self):
        for place, (methods, class_methods, properties) in METHODS.items():
            body = vars(found(place))
            for names, kind in (
                (methods, type(lambda: None)), (class_methods, classmethod), (properties, property),
            ):
                for name in names.split():
                    with self.subTest(place, name=name):
                        self.assertIsInstance(body.get(name), kind)
