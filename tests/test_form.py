"""The form of the package's own files: some of the rules of LANGUAGE.md, by far not all of them."""

import ast
import builtins
import pathlib
import re
import unittest

PACKAGE = pathlib.Path(__file__).resolve().parent.parent / "flyloft"

OWN_NAMES = set(
    "len range enumerate zip min max sum abs sorted reversed int str bool list tuple dict set frozenset isinstance "
    "ord repr any all divmod Exception ValueError TypeError KeyError IndexError LookupError ZeroDivisionError "
    "ArithmeticError OverflowError RuntimeError NotImplementedError AttributeError StopIteration".split()
)
TWO_UNDERSCORES = {"__init__", "__eq__", "__repr__", "__str__", "__len__"}
WORDS_OUT = re.compile(
    r"\b(type|typing|typing_extensions|enum|Enum|IntEnum|StrEnum|Flag|IntFlag|Generic|Protocol|ABC|ABCMeta"
    r"|namedtuple|NamedTuple|TypedDict|TYPE_CHECKING|abstractmethod)\b|dataclass|overload|contextmanager"
)
KEYWORDS = {
    "sorted": ("key", "reverse"), "min": ("key", "default"), "max": ("key", "default"), "sum": ("start",),
    "enumerate": ("start",), "zip": ("strict",),
}
PYTHON_CALLS = OWN_NAMES & set(
    "len range enumerate zip min max sum abs sorted reversed int str bool list tuple dict set frozenset isinstance ord "
    "repr any all divmod".split()
)
PYTHON_METHODS = set(
    "append clear copy count endswith extend find get index insert isalnum isalpha isdigit islower isspace isupper "
    "items join keys ljust lower lstrip partition pop remove replace reverse rfind rjust rpartition rsplit rstrip "
    "setdefault split splitlines startswith strip update upper values zfill bit_length".split()
)
PYTHON_ATTRIBUTES = {name for value in ("", 0, [], (), {}, set(), b"") for name in dir(value)}
LAZY = ("zip", "enumerate", "reversed", "range")
LAZY_METHODS = ("items", "keys", "values")
WALKERS = ("list", "tuple", "dict", "sorted", "sum", "any", "all", "enumerate", "zip", "min", "max")
NODES_OUT = (
    ast.With, ast.Match, ast.Delete, ast.Global, ast.Nonlocal, ast.Assert, ast.Yield, ast.YieldFrom, ast.Await,
    ast.AsyncFunctionDef, ast.AsyncFor, ast.AsyncWith, ast.SetComp, ast.DictComp, ast.GeneratorExp, ast.NamedExpr,
    ast.Starred, ast.Div, ast.Import,
)


def text_faults(text):
    faults = []
    rows = text.splitlines()
    if len(rows) > 400:
        faults.append("L10 a file of more than 400 lines")
    if any(len(row) > 120 for row in rows):
        faults.append("L10 a line of more than 120 characters")
    if any(sign != "\n" and not " " <= sign <= "~" for sign in text):
        faults.append("L14 a sign that is none from the blank to ~")
    if WORDS_OUT.search(text):
        faults.append("L17 a word that stands nowhere")
    return faults


def node_faults(node):
    if isinstance(node, NODES_OUT):
        return ["L6 or L7 " + node.__class__.__name__]
    if isinstance(node, ast.FunctionDef):
        return function_faults(node)
    if isinstance(node, ast.ClassDef):
        return class_faults(node)
    if isinstance(node, ast.ImportFrom):
        own = node.level == 0 and node.module.startswith("flyloft.")
        return [] if own and all(name.name != "*" for name in node.names) else ["L2 an import"]
    if isinstance(node, (ast.For, ast.While)) and node.orelse or isinstance(node, ast.Try) and node.finalbody:
        return ["L6 else behind a loop, or finally"]
    if isinstance(node, ast.Assign) and len(node.targets) != 1:
        return ["L6 two targets"]
    if isinstance(node, ast.Constant) and isinstance(node.value, (float, complex, bytes)):
        return ["L7 a value"]
    if isinstance(node, ast.Constant) and isinstance(node.value, str) and chr(37) in node.value:
        return ["L27 the percent sign"]
    if isinstance(node, ast.Compare):
        return is_faults(node)
    if isinstance(node, (ast.Name, ast.Attribute, ast.arg)):
        return name_faults(node)
    return []


def function_faults(node):
    faults = []
    if node.end_lineno - node.lineno >= 40:
        faults.append("L10 a function of more than 40 lines")
    if node.decorator_list or node.args.vararg or node.args.kwarg or node.args.kwonlyargs:
        faults.append("L4 " + node.name)
    if node.name.startswith("_") and node.name not in TWO_UNDERSCORES:
        faults.append("L12 " + node.name)
    return faults


def class_faults(node):
    plain = all(isinstance(part, (ast.FunctionDef, ast.Pass)) for part in node.body)
    return [] if plain and not node.decorator_list and len(node.bases) <= 1 else ["L5 " + node.name]


def is_faults(node):
    for sort, side in zip(node.ops, node.comparators):
        plain = isinstance(side, ast.Constant) and (side.value is None or isinstance(side.value, bool))
        if isinstance(sort, (ast.Is, ast.IsNot)) and not plain:
            return ["L20 is"]
    return []


def name_faults(node):
    if isinstance(node, ast.Attribute):
        return ["L12 " + node.attr] if node.attr.startswith("_") and node.attr != "__init__" else []
    name = node.id if isinstance(node, ast.Name) else node.arg
    python_own = name in vars(builtins)
    if name.startswith("_") or python_own and name not in OWN_NAMES:
        return ["L8 or L12 " + name]
    bound = isinstance(node, ast.arg) or isinstance(node.ctx, ast.Store)
    return ["L15 " + name] if python_own and bound else []


def top_faults(tree):
    first = tree.body[0]
    if not (isinstance(first, ast.Expr) and isinstance(first.value, ast.Constant)):
        return ["L3 no docstring"]
    sorts = (ast.ImportFrom, ast.FunctionDef, ast.ClassDef, ast.Assign)
    return [] if all(isinstance(part, sorts) for part in tree.body[1:]) else ["L3 the top of a module"]


def faults_of(text):
    tree = ast.parse(text)
    faults = text_faults(text) + top_faults(tree) + shadow_faults(tree) + top_name_faults(tree) + call_faults(tree)
    for node in ast.walk(tree):
        faults += node_faults(node)
    return faults


def names_bound_within(tree):
    """Parameters and locals of every def, those of comprehensions and handlers too."""
    names = set()
    for part in ast.walk(tree):
        if isinstance(part, (ast.FunctionDef, ast.Lambda)):
            names |= {arg.arg for arg in part.args.args}
            bound = [node for node in ast.walk(part) if isinstance(node, ast.Name) and isinstance(node.ctx, ast.Store)]
            names |= {node.id for node in bound}
        if isinstance(part, ast.ExceptHandler) and part.name:
            names.add(part.name)
    return names


def shadow_faults(tree):
    above = {part.name for part in tree.body if isinstance(part, ast.ClassDef)}
    for part in tree.body:
        if isinstance(part, ast.ImportFrom):
            above |= {name.asname or name.name for name in part.names}
    return ["L15 " + name for name in sorted(above & names_bound_within(tree))]


def top_name_faults(tree):
    names = []
    for part in tree.body:
        if isinstance(part, ast.Assign):
            names += [target.id for target in part.targets]
        elif isinstance(part, (ast.FunctionDef, ast.ClassDef)):
            names.append(part.name)
        elif isinstance(part, ast.ImportFrom):
            names += [name.asname or name.name for name in part.names]
    return ["L15 bound twice: " + name for name in sorted(set(names)) if names.count(name) > 1]


def call_faults(tree):
    """L22: which keywords stand where. L25: which methods are called. L24: where a set stands."""
    faults = []
    parents = {child: node for node in ast.walk(tree) for child in ast.iter_child_nodes(node)}
    for node in ast.walk(tree):
        if isinstance(node, ast.Call):
            name = node.func.id if isinstance(node.func, ast.Name) else ""
            faults += ["L22 " + word.arg for word in node.keywords if word.arg not in KEYWORDS.get(name, ())]
            if name in ("set", "frozenset"):
                faults += [] if is_set_in_place(parents[node]) else ["L24 a set"]
            lazy = name in LAZY or isinstance(node.func, ast.Attribute) and node.func.attr in LAZY_METHODS
            if lazy and not is_walked(node, parents[node]):
                faults.append("L23 not walked on the spot")
        if isinstance(node, ast.Name) and node.id in PYTHON_CALLS and not is_called(node, parents[node]):
            faults.append("L22 not called: " + node.id)
    return faults


def is_called(node, parent):
    sorts = ("int", "str", "bool", "list", "tuple", "dict")
    in_isinstance = isinstance(parent, (ast.Call, ast.Tuple)) and node.id in sorts
    return isinstance(parent, ast.Call) and parent.func is node or isinstance(parent, ast.keyword) or in_isinstance


def is_set_in_place(parent):
    if isinstance(parent, (ast.Compare, ast.BinOp)):
        return True
    return isinstance(parent, ast.Call) and isinstance(parent.func, ast.Name) and parent.func.id in ("sorted", "len")


def is_walked(node, parent):
    if isinstance(parent, (ast.For, ast.comprehension)):
        return parent.iter is node
    return isinstance(parent, ast.Call) and isinstance(parent.func, ast.Name) and parent.func.id in WALKERS


def attribute_faults(tree, methods, values):
    faults = []
    called = {node.func for node in ast.walk(tree) if isinstance(node, ast.Call)}
    for node in ast.walk(tree):
        if not isinstance(node, ast.Attribute):
            continue
        if node in called and node.attr not in methods | PYTHON_METHODS | {"__init__"}:
            faults.append("L25 " + node.attr)
        if node not in called and node.attr not in values:
            faults.append("L25 not called: " + node.attr)
    return faults


def import_faults(trees):
    """L16: each name from the very file that defines it, and no two files from one another."""
    faults = []
    drawn = {}
    for module, tree in trees.items():
        drawn[module] = set()
        for part in tree.body:
            if isinstance(part, ast.ImportFrom):
                source = part.module.split(".")[-1]
                drawn[module].add(source)
                defined = top_names(trees[source])
                faults += [f"L16 {name.name}" for name in part.names if name.name not in defined]
    for module in drawn:
        reached, ahead = set(), list(drawn[module])
        while ahead:
            step = ahead.pop()
            if step not in reached:
                reached.add(step)
                ahead += drawn[step]
        faults += ["L16 a ring: " + module] if module in reached else []
    return faults


def top_names(tree):
    names = {part.name for part in tree.body if isinstance(part, (ast.FunctionDef, ast.ClassDef))}
    return names | {target.id for part in tree.body if isinstance(part, ast.Assign) for target in part.targets}


def methods_and_values(trees):
    methods, values = set(), set()
    for tree in trees:
        for node in ast.walk(tree):
            if isinstance(node, ast.ClassDef):
                methods |= {part.name for part in node.body if isinstance(part, ast.FunctionDef)}
            if isinstance(node, ast.Attribute) and isinstance(node.ctx, ast.Store):
                values.add(node.attr)
    return methods, values


class Form(unittest.TestCase):

    def files(self):
        return [path for path in sorted(PACKAGE.rglob("*")) if "__pycache__" not in path.parts]

    def test_files_of_the_package(self):
        for path in self.files():
            with self.subTest(path=path.name):
                self.assertTrue(path.is_file())
                self.assertRegex(path.name, r"^[a-z0-9_]+\.py$")

    def test_each_file_keeps_to_the_rules(self):
        for path in self.files():
            with self.subTest(path=path.name):
                self.assertEqual(faults_of(path.read_text(encoding="utf-8")), [])

    def trees(self):
        return {path.stem: ast.parse(path.read_text(encoding="utf-8")) for path in self.files()}

    def test_no_name_is_a_method_and_a_value(self):
        methods, values = methods_and_values(self.trees().values())
        self.assertEqual(methods & values, set())

    def test_methods_and_values_are_not_called_like_those_of_python(self):
        methods, values = methods_and_values(self.trees().values())
        self.assertEqual((methods - TWO_UNDERSCORES) & (PYTHON_ATTRIBUTES - PYTHON_METHODS - {"add", "discard"}), set())
        self.assertEqual(values & PYTHON_ATTRIBUTES, set())

    def test_methods_that_are_called(self):
        trees = self.trees()
        methods, values = methods_and_values(trees.values())
        for module, tree in trees.items():
            with self.subTest(module=module):
                self.assertEqual(attribute_faults(tree, methods, values), [])

    def test_what_files_draw_from_one_another(self):
        self.assertEqual(import_faults(self.trees()), [])
        ring = {"a": ast.parse("from p.b import x\ny = 1"), "b": ast.parse("from p.a import y\nx = 1")}
        self.assertEqual(len(import_faults(ring)), 2)
        through = {"a": ast.parse("y = 1"), "b": ast.parse("from p.a import y"), "c": ast.parse("from p.b import y")}
        self.assertEqual(import_faults(through), ["L16 y"])

    def test_wrong_forms_are_seen(self):
        for row in ("import os", "from os import path", "from flyloft.words import *", "x = 1.5", "print(1)",
                    "def f(*a):\n    return a", "def f(x):\n    return x / 2", "def f(x):\n    return x is 5",
                    "def f(xs):\n    return sum(x for x in xs)", "def f(xs):\n    return {x for x in xs}",
                    "def f():\n    a = b = 1", "def f(x):\n    assert x", "def f(_x):\n    return 1",
                    "def f(x):\n    return x._y", "def f(list):\n    return 1", "def f(x):\n    return getattr(x, 'y')",
                    "from flyloft.a import b\n\n\ndef f(b):\n    return b", "x = 1\nx = 2",
                    "from flyloft.a import b\n\n\ndef f(x):\n    return [b for b in x]",
                    "def f(x):\n    return zip(x, x)", "def f(x):\n    y = x.items()\n    return y",
                    "def f(x):\n    return set(x)", "def f(x):\n    return int(x, base=8)",
                    "def f(x):\n    y = len\n    return y(x)", "class C:\n    x = 1",
                    "x = 'a typing b'", "# \u00e9", "#\t", "# " + "x" * 120,
                    "def f():\n" + "    pass\n" * 40, "# x\n" * 400):
            with self.subTest(row=row):
                self.assertNotEqual(faults_of('"""Words."""\n' + row + "\n"), [])

    def test_right_forms_are_let_be(self):
        self.assertEqual(faults_of('"""Words."""\n\nx = 1\n\n\ndef f(y):\n    return [z for z in y]\n'), [])


if __name__ == "__main__":
    unittest.main()
