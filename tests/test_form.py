"""Asks whether the package keeps to a part of the rules that it is to be written by.

Asked, though not every clause of them: L1 to L8, L10, L12, L14 to L18, L20, L25 to L27. Not asked at all: L9, L11,
L13, L19, L21 to L24, L28; these are to be looked at by eye. A rule's number stands in each complaint.
"""

import ast
import builtins
import pathlib
import re
import unittest

PACKAGE = pathlib.Path(__file__).resolve().parent.parent / "joinmill"

BUILTINS = set("""len range enumerate zip min max sum abs sorted reversed int str bool list tuple dict set frozenset
    isinstance ord repr any all divmod Exception ValueError TypeError KeyError IndexError LookupError
    ZeroDivisionError ArithmeticError OverflowError RuntimeError NotImplementedError AttributeError
    StopIteration""".split())
METHODS = set("""append clear copy count endswith extend find get index insert isalnum isalpha isdigit islower isspace
    isupper items join keys ljust lower lstrip partition pop remove replace reverse rfind rjust rpartition rsplit rstrip
    setdefault split splitlines startswith strip update upper values zfill bit_length""".split())
VALUES = set("count index title find get join lower upper split strip copy add".split())
UNUSED_NAMES = set("""register mro elements open input version_info with_traceback add_note attrgetter breakpoint builtins
    compile copyright credits delattr dir eval exec exit gc getattr globals hasattr help id importlib license locals
    methodcaller os quit setattr super type vars sys""".split())
UNUSED_WORDS = """type typing typing_extensions enum Enum IntEnum StrEnum Flag IntFlag Generic Protocol ABC ABCMeta
    namedtuple NamedTuple TypedDict TYPE_CHECKING abstractmethod""".split()
FILE_NAMES_OUT = set("test tests testing site conftest sitecustomize usercustomize".split() + UNUSED_WORDS)
NODES = (
    ast.Module, ast.FunctionDef, ast.ClassDef, ast.Lambda, ast.arguments, ast.arg, ast.Assign, ast.AugAssign, ast.If,
    ast.While, ast.For, ast.Return, ast.Break, ast.Continue, ast.Pass, ast.Raise, ast.Try, ast.ExceptHandler, ast.Expr,
    ast.ImportFrom, ast.alias, ast.Constant, ast.Name, ast.List, ast.Tuple, ast.Dict, ast.BinOp, ast.UnaryOp,
    ast.BoolOp, ast.Compare, ast.IfExp, ast.Call, ast.keyword, ast.Attribute, ast.Subscript, ast.Slice, ast.ListComp,
    ast.comprehension, ast.JoinedStr, ast.FormattedValue, ast.expr_context, ast.operator, ast.unaryop, ast.boolop,
    ast.cmpop, ast.Set,
)
OWN_UNDERSCORED = ["__init__", "__eq__", "__repr__", "__str__", "__len__"]
LOOPS = (ast.For, ast.While)


def complaints_of(name, source):
    tree = ast.parse(source)
    found = []

    def complain(rule, node, why):
        found.append(f"{rule} {name}:{getattr(node, 'lineno', 0)}: {why}")

    ask_text(source, complain)
    ask_top(tree, complain)
    for node in ast.walk(tree):
        ask_node(node, complain)
        ask_names(node, complain)
    ask_bindings(tree, complain)
    return found


def ask_text(source, complain):
    if len(source.splitlines()) > 400:
        complain("L10", None, "more than 400 lines")
    for place, line in enumerate(source.split("\n"), start=1):
        where = ast.Pass(lineno=place)
        if len(line) > 120:
            complain("L10", where, "a long line")
        if re.search(r"[^ -~]", line):
            complain("L14", where, "a sign beyond the blank to ~")
        if re.search(r"\\[^nt\\'\"]", line):
            complain("L27", where, "an escape")
        if re.search(r"\b(" + "|".join(UNUSED_WORDS) + r")\b|dataclass|overload|contextmanager", line):
            complain("L17", where, "a word that stands nowhere")


def ask_top(tree, complain):
    seen = set()
    for place, node in enumerate(tree.body):
        if isinstance(node, ast.Expr):
            if place != 0 or not isinstance(node.value, ast.Constant):
                complain("L3", node, "something is done at the top")
        elif isinstance(node, ast.Assign):
            ask_plain_value(node.value, complain, False)
        elif not isinstance(node, (ast.ImportFrom, ast.FunctionDef, ast.ClassDef)):
            complain("L3", node, "a statement at the top")
        for bound in top_names(node):
            if bound in seen:
                complain("L15", node, f"{bound} is bound twice")
            seen.add(bound)


def top_names(node):
    if isinstance(node, ast.ImportFrom):
        return [alias.asname or alias.name for alias in node.names]
    if isinstance(node, ast.Assign):
        return [target.id for target in node.targets]
    return [node.name] if isinstance(node, (ast.FunctionDef, ast.ClassDef)) else []


def ask_plain_value(value, complain, within):
    if isinstance(value, (ast.List, ast.Dict)) and within:
        complain("L15", value, "a list or dict within a list or dict of the top")
    if isinstance(value, (ast.List, ast.Tuple)):
        parts = value.elts
    elif isinstance(value, ast.Dict):
        parts = value.keys + value.values
    elif isinstance(value, (ast.Constant, ast.Name)):
        parts = []
    else:
        complain("L3", value, "no plain value")
        parts = []
    for part in parts:
        ask_plain_value(part, complain, within or isinstance(value, (ast.List, ast.Dict)))


def ask_node(node, complain):
    if not isinstance(node, NODES):
        complain("L6/L7", node, type(node).__name__)
    if isinstance(node, ast.Constant) and not isinstance(node.value, (int, str, bool, type(None))):
        complain("L7", node, "a constant of another kind")
    if isinstance(node, ast.Constant) and isinstance(node.value, str) and "%" in node.value:
        complain("L27", node, "a % within a text")
    if isinstance(node, (ast.Div, ast.MatMult)):
        complain("L7", node, "an operator")
    if isinstance(node, ast.Assign) and len(node.targets) != 1:
        complain("L6", node, "more than one target")
    if isinstance(node, LOOPS) and node.orelse:
        complain("L6", node, "an else behind a loop")
    if isinstance(node, ast.Try) and node.finalbody:
        complain("L6", node, "a finally")
    if isinstance(node, ast.ListComp) and (len(node.generators) != 1 or len(node.generators[0].ifs) > 1):
        complain("L7", node, "a wide comprehension")
    if isinstance(node, ast.FormattedValue) and (not isinstance(node.value, ast.Name) or node.format_spec):
        complain("L7", node, "an f-string with more than a name")
    if isinstance(node, ast.Compare):
        ask_is(node, complain)
    if isinstance(node, ast.FunctionDef):
        ask_function(node, complain)
    if isinstance(node, ast.ClassDef):
        ask_class(node, complain)
    if isinstance(node, ast.ImportFrom) and (node.level or not node.module.startswith("joinmill.")):
        complain("L2", node, "an import from elsewhere")


def ask_is(node, complain):
    sides = [node.left] + node.comparators
    for operator, left, right in zip(node.ops, sides, sides[1:]):
        plain = [side for side in (left, right) if isinstance(side, ast.Constant) and side.value in (None, True, False)]
        if isinstance(operator, (ast.Is, ast.IsNot)) and not plain:
            complain("L20", node, "an is beside something else")


def ask_function(node, complain):
    if node.end_lineno - node.lineno >= 40:
        complain("L10", node, "a long function")
    if node.decorator_list:
        complain("L4", node, "a decorator")
    if node.args.vararg or node.args.kwarg or node.args.kwonlyargs or node.args.posonlyargs:
        complain("L4", node, "parameters that are not plain")


def ask_class(node, complain):
    if node.decorator_list or len(node.bases) > 1 or node.keywords:
        complain("L5", node, "no plain class")
    methods = [part.name for part in node.body if isinstance(part, ast.FunctionDef)]
    if len(set(methods)) != len(methods):
        complain("L18", node, "a method stands twice")
    if [part for part in node.body if not isinstance(part, (ast.FunctionDef, ast.Pass))]:
        complain("L5", node, "a value in the class body")


def ask_names(node, complain):
    if isinstance(node, ast.Name) and hasattr(builtins, node.id) and node.id not in BUILTINS:
        complain("L8", node, f"the built-in {node.id}")
    names = []
    for field in ["id", "attr", "arg", "name", "asname"]:
        if isinstance(getattr(node, field, None), str):
            names.append(getattr(node, field))
    for name in names:
        if name in UNUSED_NAMES:
            complain("L17", node, f"the name {name}")
        if (name.startswith("_") and name not in OWN_UNDERSCORED) or not re.fullmatch(r"[A-Za-z0-9_]+", name):
            complain("L12", node, f"the name {name}")


def ask_bindings(tree, complain):
    taken = set(dir(builtins))
    for node in tree.body:
        if isinstance(node, (ast.ImportFrom, ast.ClassDef)):
            taken.update(top_names(node))
    for node in ast.walk(tree):
        bound = node.arg if isinstance(node, ast.arg) else None
        if isinstance(node, ast.Name) and isinstance(node.ctx, ast.Store):
            bound = node.id
        if bound in taken:
            complain("L15", node, f"{bound} has another meaning already")


def own_attributes(trees):
    methods, stored = set(), set()
    for tree in trees:
        for node in ast.walk(tree):
            if isinstance(node, ast.ClassDef):
                methods.update([part.name for part in node.body if isinstance(part, ast.FunctionDef)])
            if isinstance(node, ast.Attribute) and isinstance(node.ctx, ast.Store):
                stored.add(node.attr)
    return methods, stored


class Form(unittest.TestCase):
    def setUp(self):
        self.paths = sorted(PACKAGE.glob("*.py"))
        self.sources = {path.stem: path.read_text(encoding="utf-8") for path in self.paths}
        self.trees = {name: ast.parse(source) for name, source in self.sources.items()}

    def test_files(self):
        self.assertIn("__init__", self.sources)
        strays = [path.name for path in PACKAGE.iterdir() if path not in self.paths and path.name != "__pycache__"]
        self.assertEqual(strays, [])
        for name in self.sources:
            self.assertRegex(name, r"^([a-z][a-z0-9_]*|__init__|__main__)$")
            self.assertFalse(name in FILE_NAMES_OUT or name.startswith("test_"), name)
            self.assertFalse(hasattr(builtins, name) and not name.startswith("__"), name)

    def test_each_file(self):
        for name, source in self.sources.items():
            with self.subTest(name=name):
                self.assertEqual(complaints_of(name, source), [])

    def test_attributes(self):
        methods, stored = own_attributes(self.trees.values())
        self.assertEqual(methods & stored, set())
        for name, tree in self.trees.items():
            for node in ast.walk(tree):
                if isinstance(node, ast.Attribute):
                    self.assertIn(node.attr, METHODS | methods | stored, f"L25 {name}:{node.lineno}")

    def test_own_names(self):
        taken = {name for kind in [str, int, list, dict, set, bytes] for name in dir(kind)} | {"args"}
        methods, stored = own_attributes(self.trees.values())
        self.assertEqual(methods & taken - METHODS - {"add", "discard"} - set(OWN_UNDERSCORED), set(), "L26")
        self.assertEqual(stored & taken - VALUES, set(), "L26")

    def test_imports(self):
        drawn = {}
        for name, tree in self.trees.items():
            drawn[name] = []
            for node in tree.body:
                if isinstance(node, ast.ImportFrom):
                    source = node.module.split(".")[1]
                    drawn[name].append(source)
                    defined = [bound for part in self.trees[source].body if not isinstance(part, ast.ImportFrom)
                               for bound in top_names(part)]
                    for alias in node.names:
                        self.assertIn(alias.name, defined, f"L16 {name}")
        while drawn:
            free = [name for name in drawn if not [source for source in drawn[name] if source in drawn]]
            self.assertNotEqual(free, [], "L16: files draw from one another")
            for name in free:
                del drawn[name]

    def test_the_asking_finds_faults(self):
        faults = [
            "import os\n", "from os import path\n", "X = [[1]]\n", "X = 1\nX = 2\n", "print(1)\n", "X = 1.5\n",
            "def f(*a):\n    return a\n", "def f(x):\n    return x / 2\n", "def f(x):\n    return x is f\n",
            "def f(xs):\n    return [y for x in xs for y in x]\n", "def f(x):\n    _y = x\n    return _y\n",
            "def f(x):\n    return getattr(x, 'a')\n", "def f(min):\n    return min\n", "# the type\n",
            "def f(x):\n    while x:\n        pass\n    else:\n        pass\n", "class A:\n    x = 1\n",
            "def f(x):\n    return f'{x + 1}'\n", "def f(x):\n    del x\n", "def f(x):\n    a = b = x\n    return a + b\n",
            "def f(x):\n    return x\n" + "\n" * 400, "def f(x):\n" + "    x = 1\n" * 40, "X = '%'\n",
            "X = '\\x41'\n", "#" * 121 + "\n", "def f(x):\n    return {y for y in x}\n", "\t\n", "# \u00e9\n",
        ]
        for source in faults:
            with self.subTest(source=source):
                self.assertNotEqual(complaints_of("sample", source), [])
