"""The package's files keep to the small part of the language, as far as that can be read off them."""

import ast
import builtins
import pathlib
import re
import unittest

FOLDER = pathlib.Path(__file__).resolve().parent.parent / "noticed"

ALLOWED_NAMES = set(
    "len range enumerate zip min max sum abs sorted reversed int str bool list tuple dict set frozenset isinstance "
    "ord repr any all divmod Exception ValueError TypeError KeyError IndexError LookupError ZeroDivisionError "
    "ArithmeticError OverflowError RuntimeError NotImplementedError AttributeError StopIteration".split()
)
ALLOWED_METHODS = set(
    "append clear copy count endswith extend find get index insert isalnum isalpha isdigit islower isspace isupper "
    "items join keys ljust lower lstrip partition pop remove replace reverse rfind rjust rpartition rsplit rstrip "
    "setdefault split splitlines startswith strip update upper values zfill bit_length".split()
)
ALLOWED_NODES = set(
    "Module Expr Constant ImportFrom alias FunctionDef arguments arg ClassDef Assign AugAssign If While For Return "
    "Break Continue Pass Raise Try ExceptHandler Call keyword Attribute Subscript Slice Name Load Store List Tuple "
    "Dict Set BinOp UnaryOp BoolOp Compare IfExp Lambda ListComp comprehension JoinedStr FormattedValue Add Sub Mult "
    "FloorDiv Mod Pow BitAnd BitOr BitXor LShift RShift Invert Not USub And Or Eq NotEq Lt LtE Gt GtE Is IsNot In "
    "NotIn".split()
)
DUNDERS = {"__init__", "__eq__", "__repr__", "__str__", "__len__"}
BANNED_WORDS = re.compile(
    r"\b(type|typing|typing_extensions|enum|Enum|IntEnum|StrEnum|Flag|IntFlag|Generic|Protocol|ABC|ABCMeta|"
    r"namedtuple|NamedTuple|TypedDict|TYPE_CHECKING|abstractmethod)\b|dataclass|overload|contextmanager"
)


def files():
    return sorted(FOLDER.glob("*.py"))


def nodes(path):
    return list(ast.walk(ast.parse(path.read_text("ascii"))))


def place(path, node):
    return f"{path.name}:{getattr(node, 'lineno', '')}"


def defined(path):
    names = []
    for node in ast.parse(path.read_text("ascii")).body:
        if isinstance(node, (ast.FunctionDef, ast.ClassDef)):
            names.append(node.name)
        elif isinstance(node, ast.Assign):
            names.append(node.targets[0].id)
    return names


def imported(path):
    return [(node.module, alias.name) for node in nodes(path) if isinstance(node, ast.ImportFrom)
            for alias in node.names]


def bound(path):
    names = []
    for node in nodes(path):
        if isinstance(node, ast.arg):
            names.append(node.arg)
        elif isinstance(node, ast.ExceptHandler) and node.name is not None:
            names.append(node.name)
        elif isinstance(node, (ast.FunctionDef, ast.ClassDef)):
            names.append(node.name)
        elif isinstance(node, ast.Name) and isinstance(node.ctx, ast.Store):
            names.append(node.id)
    return names


class Form(unittest.TestCase):
    def test_files(self):
        names = [path.name for path in FOLDER.iterdir() if path.name != "__pycache__"]
        for name in names:
            self.assertRegex(name, r"\A([a-z][a-z0-9_]*|__init__)\.py\Z")
        self.assertIn("__init__.py", names)

    def test_signs_and_sizes(self):
        for path in files():
            text = path.read_bytes().decode("ascii")
            self.assertRegex(text, r"\A[ -~\n]*\Z")
            self.assertLessEqual(len(text.splitlines()), 400)
            self.assertLessEqual(max(len(line) for line in text.splitlines()), 120)
            self.assertIsNone(BANNED_WORDS.search(text))

    def test_functions(self):
        for path in files():
            for node in nodes(path):
                if isinstance(node, ast.FunctionDef):
                    self.assertLessEqual(node.end_lineno - node.lineno + 1, 40, place(path, node))
                    self.assertEqual(node.decorator_list, [])
                    self.assertEqual([node.args.vararg, node.args.kwarg, node.args.kwonlyargs], [None, None, []])

    def test_kinds_of_code(self):
        for path in files():
            for node in nodes(path):
                self.assertIn(node.__class__.__name__, ALLOWED_NODES, place(path, node))
                if isinstance(node, ast.Assign):
                    self.assertEqual(len(node.targets), 1, place(path, node))
                if isinstance(node, ast.ListComp):
                    self.assertEqual(len(node.generators), 1, place(path, node))
                    self.assertLessEqual(len(node.generators[0].ifs), 1, place(path, node))
                if isinstance(node, (ast.For, ast.While)):
                    self.assertEqual(node.orelse, [], place(path, node))

    def test_calls_or_docstrings_stand_alone(self):
        for path in files():
            tree = ast.parse(path.read_text("ascii"))
            for node in ast.walk(tree):
                if isinstance(node, ast.Expr) and node is not tree.body[0]:
                    self.assertIsInstance(node.value, ast.Call, place(path, node))

    def test_imports(self):
        for path in files():
            for module, name in imported(path):
                package, dot, source = module.partition(".")
                self.assertEqual(package, "noticed")
                self.assertIn(name, defined(FOLDER / f"{source}.py"))

    def test_no_two_files_draw_from_one_another(self):
        drawn = {path.stem: {module.partition(".")[2] for module, name in imported(path)} for path in files()}
        while drawn:
            free = [name for name in drawn if not drawn[name] & set(drawn)]
            self.assertNotEqual(free, [], drawn)
            for name in free:
                del drawn[name]

    def test_names(self):
        for path in files():
            for name in bound(path):
                if name not in DUNDERS:
                    self.assertRegex(name, r"\A[A-Za-z][A-Za-z0-9_]*\Z")
                    self.assertFalse(hasattr(builtins, name), name)
            known = set(bound(path)) | {name for module, name in imported(path)} | ALLOWED_NAMES
            for node in nodes(path):
                if isinstance(node, ast.Name):
                    self.assertIn(node.id, known, place(path, node))

    def test_names_at_the_top_stand_once(self):
        for path in files():
            names = defined(path) + [name for module, name in imported(path)]
            self.assertEqual(len(names), len(set(names)))

    def test_imported_names_and_classes_are_not_bound_again(self):
        for path in files():
            inner = [name for node in nodes(path) if isinstance(node, ast.FunctionDef)
                     for name in [one.arg for one in node.args.args]
                     + [one.id for one in ast.walk(node) if isinstance(one, ast.Name)
                        and isinstance(one.ctx, ast.Store)]]
            taken = {name for module, name in imported(path)}
            taken |= {node.name for node in nodes(path) if isinstance(node, ast.ClassDef)}
            self.assertEqual(set(inner) & taken, set())

    def test_classes(self):
        methods = set()
        stored = set()
        for path in files():
            for node in nodes(path):
                if isinstance(node, ast.ClassDef):
                    self.assertLessEqual(len(node.bases), 1, place(path, node))
                    self.assertEqual([node.decorator_list, node.keywords], [[], []], place(path, node))
                    for part in node.body:
                        self.assertIsInstance(part, (ast.FunctionDef, ast.Pass), place(path, part))
                    names = [part.name for part in node.body if isinstance(part, ast.FunctionDef)]
                    self.assertEqual(len(names), len(set(names)), place(path, node))
                    methods.update(names)
                if isinstance(node, ast.Attribute) and isinstance(node.ctx, ast.Store):
                    self.assertIsInstance(node.value, ast.Name, place(path, node))
                    stored.add(node.attr)
        # L18: in the whole package no name is a method here and a value there
        self.assertEqual(methods & stored, set())
        for name in stored:
            for kind in (str, int, list, tuple, dict, set, bytes):
                self.assertFalse(hasattr(kind, name), name)

    def test_methods(self):
        own = {name for path in files() for name in bound(path)}
        for path in files():
            for node in nodes(path):
                if isinstance(node, ast.Call) and isinstance(node.func, ast.Attribute):
                    self.assertIn(node.func.attr, ALLOWED_METHODS | own, place(path, node))

    def test_is_stands_beside_none_true_and_false(self):
        for path in files():
            for node in nodes(path):
                if isinstance(node, ast.Compare) and isinstance(node.ops[0], (ast.Is, ast.IsNot)):
                    self.assertIsInstance(node.comparators[0], ast.Constant, place(path, node))
                    self.assertIn(node.comparators[0].value, (None, True, False), place(path, node))

    def test_values(self):
        for path in files():
            for node in nodes(path):
                if isinstance(node, ast.Constant):
                    self.assertIn(node.value.__class__, (int, str, bool, None.__class__), place(path, node))
                    if isinstance(node.value, str):
                        self.assertNotIn("%", node.value, place(path, node))

    def test_texts_with_values_hold_plain_names(self):
        for path in files():
            for node in nodes(path):
                if isinstance(node, ast.FormattedValue):
                    self.assertIsInstance(node.value, ast.Name, place(path, node))
                    self.assertIsNone(node.format_spec, place(path, node))

    def test_what_is_walked_at_once_is_not_kept(self):
        walked = {"zip", "enumerate", "reversed", "range", "items", "keys", "values", "set", "frozenset"}
        for path in files():
            for node in nodes(path):
                if isinstance(node, (ast.Assign, ast.Return)) and isinstance(node.value, ast.Call):
                    called = node.value.func
                    name = called.id if isinstance(called, ast.Name) else getattr(called, "attr", None)
                    self.assertNotIn(name, walked, place(path, node))

    def test_errors_are_taken_by_name(self):
        own = set(defined(FOLDER / "errors.py"))
        for path in files():
            for node in nodes(path):
                if isinstance(node, ast.ExceptHandler):
                    self.assertIsInstance(node.type, ast.Name, place(path, node))
                    self.assertIn(node.type.id, own, place(path, node))
                if isinstance(node, ast.Raise):
                    self.assertIsInstance(node.exc, ast.Call, place(path, node))


if __name__ == "__main__":
    unittest.main()
