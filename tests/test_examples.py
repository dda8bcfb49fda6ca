"""All examples of the document, in its order and as they stand; tests/examples.txt has them."""

import importlib
import pathlib
import unittest

from tests.test_interface import CONSTANTS, DEFINED


def names_of_all_modules():
    names = {}
    for module in {*DEFINED, *CONSTANTS}:
        told = importlib.import_module(module)
        names.update({name: getattr(told, name) for name in (*DEFINED.get(module, ()), *CONSTANTS.get(module, ()))})
    return names


class Examples(unittest.TestCase):
    def check(self, code, wanted, names):
        if wanted is None:
            exec(code, names)
        elif wanted.startswith("raises "):
            with self.assertRaises(names[wanted.removeprefix("raises ")]) as caught:
                eval(code, names)
            self.assertEqual(type(caught.exception).__name__, wanted.removeprefix("raises "))
        else:
            self.assertEqual(repr(eval(code, names)), wanted, code)

    def test_in_order(self):
        lines = (pathlib.Path(__file__).parent / "examples.txt").read_text().split("\n")
        names, compared = names_of_all_modules(), 0
        for line, behind in zip(lines, [*lines[1:], ""]):
            if line.startswith(">>> "):
                wanted = None if not behind or behind.startswith(">>> ") else behind
                with self.subTest(line):
                    self.check(line.removeprefix(">>> "), wanted, names)
                compared += wanted is not None
            elif " = Question(" in line:
                exec(line, names)
        self.assertEqual(compared, 37)
