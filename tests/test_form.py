"""The form of the package's own files: some of the rules of LANGUAGE.md, by far not all of them."""

import ast
import builtins
import pathlib
import re
import unittest

PACKAGE = pathlib.Path(__file__).resolve().parent.parent / "flyloft"

OWN_NAMES = set(
    "len range enumerate zip min max sum abs sorted reversed int str bool list tuple dict set frozenset isinstance "
    "ord repr any all divmod Exception ValueError TypeError KeyError IndexError LookupError ZeroDivisionError "
    "ArithmeticError OverflowError RuntimeError NotImplementedError AttributeError StopIteration".split()
)
TWO_UNDERSCORES = {"__init__", "__eq__", "__repr__", "__str__", "__len__"}
WORDS_OUT = re.compile(
    r"\b(type|typing|typing_extensions|enum|Enum|IntEnum|StrEnum|Flag|IntFlag|Generic|Protocol|ABC|ABCMeta"
    r"|namedtuple|NamedTuple|TypedDict|TYPE_CHECKING|abstractmethod)\b|dataclass|overload|contextmanager"
)
NODES_OUT = (
    ast.With, ast.Match, ast.Delete, ast.Global, ast.Nonlocal, ast.Assert, ast.Yield, ast.YieldFrom, ast.Await,
    ast.AsyncFunctionDef, ast.AsyncFor, ast.AsyncWith, ast.SetComp, ast.DictComp, ast.GeneratorExp, ast.NamedExpr,
    ast.Starred, ast.Div, ast.Import,
)


def text_faults(text):
    faults = []
    rows = text.splitlines()
    if len(rows) > 400:
        faults.append("L10 a file of more than 400 lines")
    if any(len(row) > 120 for row in rows):
        faults.append("L10 a line of more than 120 characters")
    if any(sign != "\n" and not " " <= sign <= "~" for sign in text):
        faults.append("L14 a sign that is none from the blank to ~")
    if WORDS_OUT.search(text):
        faults.append("L17 a word that stands nowhere")
    return faults


def node_faults(node):
    if isinstance(node, NODES_OUT):
        return ["L6 or L7 " + node.__class__.__name__]
    if isinstance(node, ast.FunctionDef):
        return function_faults(node)
    if isinstance(node, ast.ClassDef):
        return class_faults(node)
    if isinstance(node, ast.ImportFrom):
        own = node.level == 0 and node.module.startswith("flyloft.")
        return [] if own and all(name.name != "*" for name in node.names) else ["L2 an import"]
    if isinstance(node, (ast.For, ast.While)) and node.orelse or isinstance(node, ast.Try) and node.finalbody:
        return ["L6 else behind a loop, or finally"]
    if isinstance(node, ast.Assign) and len(node.targets) != 1:
        return ["L6 two targets"]
    if isinstance(node, ast.Constant) and isinstance(node.value, (float, complex, bytes)):
        return ["L7 a value"]
    if isinstance(node, ast.Constant) and isinstance(node.value, str) and chr(37) in node.value:
        return ["L27 the percent sign"]
    if isinstance(node, ast.Compare):
        return is_faults(node)
    if isinstance(node, (ast.Name, ast.Attribute, ast.arg)):
        return name_faults(node)
    return []


def function_faults(node):
    faults = []
    if node.end_lineno - node.lineno >= 40:
        faults.append("L10 a function of more than 40 lines")
    if node.decorator_list or node.args.vararg or node.args.kwarg or node.args.kwonlyargs:
        faults.append("L4 " + node.name)
    if node.name.startswith("_") and node.name not in TWO_UNDERSCORES:
        faults.append("L12 " + node.name)
    return faults


def class_faults(node):
    plain = all(isinstance(part, (ast.FunctionDef, ast.Pass)) for part in node.body)
    return [] if plain and not node.decorator_list and len(node.bases) <= 1 else ["L5 " + node.name]


def is_faults(node):
    for sort, side in zip(node.ops, node.comparators):
        plain = isinstance(side, ast.Constant) and (side.value is None or isinstance(side.value, bool))
        if isinstance(sort, (ast.Is, ast.IsNot)) and not plain:
            return ["L20 is"]
    return []


def name_faults(node):
    if isinstance(node, ast.Attribute):
        return ["L12 " + node.attr] if node.attr.startswith("_") and node.attr != "__init__" else []
    name = node.id if isinstance(node, ast.Name) else node.arg
    python_own = name in vars(builtins)
    if name.startswith("_") or python_own and name not in OWN_NAMES:
        return ["L8 or L12 " + name]
    bound = isinstance(node, ast.arg) or isinstance(node.ctx, ast.Store)
    return ["L15 " + name] if python_own and bound else []


def top_faults(tree):
    first = tree.body[0]
    if not (isinstance(first, ast.Expr) and isinstance(first.value, ast.Constant)):
        return ["L3 no docstring"]
    sorts = (ast.ImportFrom, ast.FunctionDef, ast.ClassDef, ast.Assign)
    return [] if all(isinstance(part, sorts) for part in tree.body[1:]) else ["L3 the top of a module"]


def faults_of(text):
    tree = ast.parse(text)
    faults = text_faults(text) + top_faults(tree)
    for node in ast.walk(tree):
        faults += node_faults(node)
    return faults


def methods_and_values(trees):
    methods, values = set(), set()
    for tree in trees:
        for node in ast.walk(tree):
            if isinstance(node, ast.ClassDef):
                methods |= {part.name for part in node.body if isinstance(part, ast.FunctionDef)}
            if isinstance(node, ast.Attribute) and isinstance(node.ctx, ast.Store):
                values.add(node.attr)
    return methods, values


class Form(unittest.TestCase):

    def files(self):
        return [path for path in sorted(PACKAGE.rglob("*")) if "__pycache__" not in path.parts]

    def test_files_of_the_package(self):
        for path in self.files():
            with self.subTest(path=path.name):
                self.assertTrue(path.is_file())
                self.assertRegex(path.name, r"^[a-z0-9_]+\.py$")

    def test_each_file_keeps_to_the_rules(self):
        for path in self.files():
            with self.subTest(path=path.name):
                self.assertEqual(faults_of(path.read_text(encoding="utf-8")), [])

    def test_no_name_is_a_method_and_a_value(self):
        methods, values = methods_and_values([ast.parse(path.read_text()) for path in self.files()])
        self.assertEqual(methods & values, set())

    def test_wrong_forms_are_seen(self):
        for row in ("import os", "from os import path", "from flyloft.words import *", "x = 1.5", "print(1)",
                    "def f(*a):\n    return a", "def f(x):\n    return x / 2", "def f(x):\n    return x is 5",
                    "def f(xs):\n    return sum(x for x in xs)", "def f(xs):\n    return {x for x in xs}",
                    "def f():\n    a = b = 1", "def f(x):\n    assert x", "def f(_x):\n    return 1",
                    "def f(x):\n    return x._y", "def f(list):\n    return 1", "def f(x):\n    return getattr(x, 'y')",
                    "class C:\n    x = 1", "x = 'a typing b'", "# \u00e9", "#\t", "# " + "x" * 120,
                    "def f():\n" + "    pass\n" * 40, "# x\n" * 400):
            with self.subTest(row=row):
                self.assertNotEqual(faults_of('"""Words."""\n' + row + "\n"), [])

    def test_right_forms_are_let_be(self):
        self.assertEqual(faults_of('"""Words."""\n\nx = 1\n\n\ndef f(y):\n    return [z for z in y]\n'), [])


if __name__ == "__main__":
    unittest.main()
