"""Everything that the interface lists exists under its name, in the file of its module."""

import importlib
import inspect
import unittest

ERRORS = (
    "TouchError InvalidRatio InvalidQuestion InvalidRow InvalidStore InvalidView InvalidPlan InvalidWeights "
    "InvalidOperation ParseError UnknownName RowThere RowAbsent InvalidNumber NothingToUndo TooMany Refused"
)
DEFINED = {
    "touchrows.errors": {name: "" for name in ERRORS.split()},
    "touchrows.base.words": {"is_integer": "value", "is_count": "value", "is_name": "value"},
    "touchrows.base.ratios": {"Ratio": "top, bottom", "sum_of": "ratios", "greatest_of": "ratios"},
    "touchrows.base.questions": {"Question": "tables, groups, *, sizes=None"},
}
CONSTANTS = {
    "touchrows.base.words": {"MAX_LETTERS": 8, "MAX_FIGURES": 60},
    "touchrows.base.questions": {"MAX_TABLES": 6, "MAX_COLUMNS": 8, "MAX_SIZE": 9},
}
METHODS = {
    "touchrows.base.ratios.Ratio": (
        "over is_less __add__ __sub__ __mul__ __neg__ __bool__ __eq__ __str__", "of_text", "top bottom pair",
    ),
    "touchrows.base.questions.Question": (
        "tables_with with_table with_size with_groups without_table renamed __len__ __iter__ __contains__ __eq__ __str__",
        "from_lines", "tables sizes groups names columns lines",
    ),
}


def found(place):
    """The class or function with a dotted name."""
    module, _, name = place.rpartition(".")
    return getattr(importlib.import_module(module), name)


class Interface(unittest.TestCase):
    def test_defined_in_the_file_of_the_module(self):
        for module, names in DEFINED.items():
            for name in names:
                with self.subTest(module, name=name):
                    self.assertEqual(found(f"{module}.{name}").__module__, module)

    def test_parameters(self):
        for module, names in DEFINED.items():
            for name, parameters in names.items():
                if parameters:
                    with self.subTest(module, name=name):
                        self.assertEqual(str(inspect.signature(found(f"{module}.{name}"))), f"({parameters})")

    def test_constants(self):
        for module, names in CONSTANTS.items():
            for name, value in names.items():
                self.assertEqual(found(f"{module}.{name}"), value)

    def test_methods_stand_in_the_class_itself(self):
        for place, (methods, class_methods, properties) in METHODS.items():
            body = vars(found(place))
            for names, kind in (
                (methods, type(lambda: None)), (class_methods, classmethod), (properties, property),
            ):
                for name in names.split():
                    with self.subTest(place, name=name):
                        self.assertIsInstance(body.get(name), kind)
