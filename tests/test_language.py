"""The rules of the language that can be seen from a single file.

The paper has more of them, and is narrower in places; this finds slips early, and is no substitute for reading.
"""

import ast
import builtins
import pathlib
import re
import unittest

TOP = pathlib.Path(__file__).resolve().parent.parent
PACKAGE = TOP / "touchrows"
FILES = sorted(path for path in PACKAGE.rglob("*") if path.is_file() and "__pycache__" not in path.parts)
SOURCES = {path.relative_to(TOP).as_posix(): path.read_bytes().decode("ascii", "replace") for path in FILES}
TREES = {name: ast.parse(text) for name, text in SOURCES.items()}

BUILTINS = set(
    "len range enumerate zip min max sum abs sorted reversed int str bool list tuple dict set isinstance ord repr any all "
    "divmod iter next map super Exception ValueError TypeError KeyError IndexError LookupError ZeroDivisionError "
    "ArithmeticError OverflowError RuntimeError NotImplementedError NotImplemented property classmethod staticmethod".split()
)
DOUBLE = set(
    "__init__ __eq__ __repr__ __str__ __len__ __enter__ __exit__ __call__ __iter__ __add__ __sub__ __mul__ __neg__ "
    "__bool__ __contains__ __getitem__".split()
)
METHODS = set(
    "append clear copy count endswith extend find get index insert isalnum isalpha isdigit islower isspace isupper items "
    "join keys ljust lower lstrip partition pop remove replace reverse rfind rjust rpartition rsplit rstrip setdefault "
    "split splitlines startswith strip update upper values zfill bit_length isascii removeprefix removesuffix add "
    "discard".split()
)
LIBRARY = {"math": {"gcd", "lcm", "isqrt", "comb"}, "heapq": {"heappush", "heappop", "heapify"}}
BARRED = set(
    "type typing typing_extensions enum Enum IntEnum StrEnum Flag IntFlag Generic Protocol ABC ABCMeta namedtuple "
    "NamedTuple TypedDict TYPE_CHECKING abstractmethod _wall _WallAttr".split()
)
BARRED_NAMES = set("register mro elements open input law version_info with_traceback add_note".split())
STATEMENTS = (
    ast.FunctionDef, ast.ClassDef, ast.Return, ast.Delete, ast.Assign, ast.AugAssign, ast.For, ast.While, ast.If, ast.With,
    ast.Raise, ast.Try, ast.Assert, ast.ImportFrom, ast.Expr, ast.Pass, ast.Break, ast.Continue, ast.Match, ast.Nonlocal,
)
DECORATORS = re.compile(r"property|classmethod|staticmethod|\w+\.setter")


def nodes(kind):
    """Pairs of a file's name and each node of a kind in it."""
    return [(name, node) for name, tree in TREES.items() for node in ast.walk(tree) if isinstance(node, kind)]


def own_methods():
    """The names of all methods of the package."""
    return {one.name for _, node in nodes(ast.ClassDef) for one in node.body if isinstance(one, ast.FunctionDef)}


def bound_names():
    """Pairs of a file and of a name that it binds, but for attributes, methods and imports."""
    methods = {id(one) for _, node in nodes(ast.ClassDef) for one in node.body}
    told = [(name, node.id) for name, node in nodes(ast.Name) if isinstance(node.ctx, ast.Store)]
    told += [(name, node.arg) for name, node in nodes(ast.arg)]
    return told + [(name, node.name) for name, node in nodes((ast.FunctionDef, ast.ClassDef)) if id(node) not in methods]


def holds(part, kind):
    """The nodes of a kind inside another one."""
    return [node for node in ast.walk(part) if isinstance(node, kind)]


class Files(unittest.TestCase):
    def test_names(self):
        for name in SOURCES:
            self.assertRegex(name, r"^touchrows(/[a-z][a-z0-9_]*)*/(__init__|[a-z][a-z0-9_]*)\.py$")
        folders = {path.parent for path in FILES}
        self.assertTrue(all((folder / "__init__.py").exists() for folder in folders))
        self.assertLessEqual(len(FILES), 100)

    def test_characters_and_lines(self):
        for name, path in zip(SOURCES, FILES):
            self.assertTrue(all(sign == 10 or 32 <= sign <= 126 for sign in path.read_bytes()), name)
            lines = SOURCES[name].split("\n")
            self.assertLessEqual(len(lines), 399, name)
            self.assertLessEqual(max(map(len, lines)), 120, name)

    def test_functions_are_short(self):
        for name, node in nodes(ast.FunctionDef):
            self.assertLessEqual(node.end_lineno - node.lineno + 1, 40, (name, node.name))


class Words(unittest.TestCase):
    def test_barred(self):
        for name, text in SOURCES.items():
            self.assertEqual(BARRED & set(re.findall(r"\w+", text)), set(), name)

    def test_barred_names(self):
        for name, node in nodes((ast.Name, ast.Attribute, ast.arg, ast.keyword, ast.FunctionDef, ast.ClassDef, ast.alias)):
            words = {getattr(node, word, None) for word in ("id", "attr", "arg", "name")}
            self.assertEqual(BARRED_NAMES & words, set(), name)

    def test_builtins_are_not_named_anew(self):
        for name, word in bound_names():
            # A doctest that ran earlier has made "_" a builtin.
            self.assertFalse(hasattr(builtins, word) and word != "_", (name, word))

    def test_only_some_builtins(self):
        for name, node in nodes(ast.Name):
            if isinstance(node.ctx, ast.Load) and hasattr(builtins, node.id):
                self.assertIn(node.id, BUILTINS, (name, node.lineno))

    def test_double_underscores(self):
        for name, node in nodes((ast.FunctionDef, ast.Name, ast.Attribute)):
            word = getattr(node, "name", None) or getattr(node, "id", None) or node.attr
            self.assertTrue(not word.startswith("__") or word in DOUBLE, (name, node.lineno))

    def test_methods_of_builtin_values(self):
        own = own_methods()
        for name, node in nodes(ast.Call):
            if isinstance(node.func, ast.Attribute):
                self.assertIn(node.func.attr, METHODS | own, (name, node.lineno))

    def test_strings(self):
        for name, node in nodes(ast.Constant):
            self.assertNotIsInstance(node.value, (float, complex, bytes), (name, node.lineno))
            if isinstance(node.value, str):
                self.assertNotIn("%", node.value, (name, node.lineno))
        for name, text in SOURCES.items():
            self.assertIsNone(re.search(r"\\[^nt\\'\"]", text), name)


class Shapes(unittest.TestCase):
    def test_statements(self):
        for name, node in nodes(ast.stmt):
            self.assertIsInstance(node, STATEMENTS, (name, node.lineno))

    def test_module_level(self):
        for name, tree in TREES.items():
            for node in tree.body:
                self.assertIsInstance(node, (ast.Expr, ast.ImportFrom, ast.FunctionDef, ast.ClassDef, ast.Assign), name)
                if isinstance(node, ast.Assign):
                    self.assertEqual(holds(node, (ast.Call, ast.Lambda)), [], (name, node.lineno))

    def test_imports(self):
        for name, node in nodes(ast.ImportFrom):
            words = {one.name for one in node.names}
            self.assertTrue(all(one.asname is None for one in node.names), (name, node.lineno))
            if node.module in LIBRARY:
                self.assertLessEqual(words, LIBRARY[node.module], (name, node.lineno))
                continue
            tree = TREES[node.module.replace(".", "/") + ".py"]
            defined = {getattr(one, "name", None) for one in tree.body}
            defined |= {one.targets[0].id for one in tree.body if isinstance(one, ast.Assign)}
            self.assertLessEqual(words, defined, (name, node.lineno))

    def test_no_circles_of_imports(self):
        needs = {name: set() for name in TREES}
        for name, node in nodes(ast.ImportFrom):
            if node.module not in LIBRARY:
                needs[name].add(node.module.replace(".", "/") + ".py")
        while needs:
            free = [name for name in needs if not needs[name] & set(needs)]
            self.assertNotEqual(free, [], sorted(needs))
            for name in free:
                del needs[name]

    def test_stars_stand_before_names(self):
        for name, node in nodes(ast.Call):
            for told in node.args:
                if isinstance(told, ast.Starred):
                    self.assertIsInstance(told.value, ast.Name, (name, node.lineno))
            self.assertTrue(all(told.arg for told in node.keywords), (name, node.lineno))

    def test_imported_names_are_used_for_nothing_else(self):
        for name, tree in TREES.items():
            taken = [one.name for one in tree.body if isinstance(one, ast.ClassDef)]
            taken += [one.name for node in tree.body if isinstance(node, ast.ImportFrom) for one in node.names]
            told = [node.arg for node in ast.walk(tree) if isinstance(node, ast.arg)]
            told += [node.id for node in ast.walk(tree) if isinstance(node, ast.Name) and isinstance(node.ctx, ast.Store)]
            self.assertEqual(set(taken) & set(told), set(), name)
            self.assertEqual(len(taken), len(set(taken)), name)
            read = {node.id for node in ast.walk(tree) if isinstance(node, ast.Name)}
            self.assertLessEqual(set(taken) - {one.name for one in tree.body if isinstance(one, ast.ClassDef)}, read, name)

    def test_names_of_methods_are_no_attributes(self):
        methods = own_methods()
        for name, node in nodes(ast.Attribute):
            if isinstance(node.ctx, ast.Store):
                self.assertNotIn(node.attr, methods, (name, node.lineno))

    def test_generators_have_their_own_names(self):
        defined = [node for _, node in nodes(ast.FunctionDef)]
        generators = {node.name for node in defined if holds(node, (ast.Yield, ast.YieldFrom))}
        for word in generators:
            self.assertEqual(sum(node.name == word for node in defined), 1, word)
        for name, node in nodes(ast.Name):
            if node.id in generators:
                self.assertIsInstance(node.ctx, ast.Load, (name, node.lineno))

    def test_handlers_have_their_own_names(self):
        for name, node in nodes(ast.FunctionDef):
            told = [one.name for one in holds(node, ast.ExceptHandler) if one.name]
            self.assertEqual(len(told), len(set(told)), (name, node.name))

    def test_sets_are_sorted_or_counted_at_once(self):
        for name, tree in TREES.items():
            inside = {id(part) for call in holds(tree, ast.Call) if getattr(call.func, "id", "") in ("sorted", "len") for part in call.args}
            for node in holds(tree, (ast.Set, ast.SetComp, ast.Call)):
                if not isinstance(node, ast.Call) or getattr(node.func, "id", "") == "set":
                    self.assertIn(id(node), inside, (name, node.lineno))

    def test_decorators(self):
        for name, node in nodes(ast.FunctionDef):
            for told in node.decorator_list:
                self.assertTrue(DECORATORS.fullmatch(ast.unparse(told)), (name, node.lineno))

    def test_signs(self):
        self.assertEqual(nodes((ast.Div, ast.MatMult, ast.Await, ast.Global)), [])
        for name, node in nodes(ast.BinOp):
            if isinstance(node.op, ast.Pow):
                self.assertTrue(isinstance(node.right, ast.Constant) and 0 <= node.right.value <= 64, (name, node.lineno))
        for name, node in nodes(ast.Compare):
            for sign, right in zip(node.ops, node.comparators):
                if isinstance(sign, (ast.Is, ast.IsNot)):
                    self.assertIsInstance(right, ast.Constant, (name, node.lineno))

    def test_no_generator_expressions(self):
        self.assertEqual([(name, node.lineno) for name, node in nodes(ast.GeneratorExp)], [])

    def test_texts_and_truth_assign_nothing(self):
        for name, node in nodes(ast.FunctionDef):
            if node.name in ("__eq__", "__str__", "__len__", "__bool__", "__iter__", "__contains__"):
                self.assertEqual(holds(node, (ast.Assign, ast.AugAssign)), [], (name, node.lineno))

    def test_no_state_but_in_objects(self):
        for name, node in nodes(ast.Attribute):
            if isinstance(node.ctx, ast.Store):
                self.assertIsInstance(node.value, ast.Name, (name, node.lineno))

    def test_views_are_iterated_at_once(self):
        for name, node in nodes(ast.Assign):
            value = node.value
            if isinstance(value, ast.Call):
                word = getattr(value.func, "id", None) or getattr(value.func, "attr", None)
                self.assertNotIn(word, ("zip", "enumerate", "reversed", "items", "keys", "values", "map", "set"), name)
