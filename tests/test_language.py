"""Holds the package's files against the rules of LANGUAGE.md that can be seen file by file.

What it finds is told as (rule, line, what). It doesn't see all that the rules ask.
"""

import ast
import builtins
import re
import unittest
from pathlib import Path

PACKAGE = Path(__file__).resolve().parent.parent / "ringbeat"

OWN_NAMES = """len range enumerate zip min max sum abs sorted reversed int str bool list tuple dict set frozenset
isinstance ord repr any all divmod Exception ValueError TypeError KeyError IndexError LookupError
ZeroDivisionError ArithmeticError OverflowError RuntimeError NotImplementedError AttributeError StopIteration""".split()
OWN_METHODS = """append clear copy count endswith extend find get index insert isalnum isalpha isdigit islower
isspace isupper items join keys ljust lower lstrip partition pop remove replace reverse rfind rjust rpartition
rsplit rstrip setdefault split splitlines startswith strip update upper values zfill bit_length""".split()
DUNDER_METHODS = ["__init__", "__eq__", "__repr__", "__str__", "__len__"]
NEVER_WORDS = re.compile(
    r"\b(type|typing|typing_extensions|enum|Enum|IntEnum|StrEnum|Flag|IntFlag|Generic|Protocol|ABC|ABCMeta"
    r"|namedtuple|NamedTuple|TypedDict|TYPE_CHECKING|abstractmethod)\b|dataclass|overload|contextmanager"
)
NEVER_NAMES = """register mro elements open input version_info with_traceback add_note attrgetter breakpoint builtins
compile copyright credits delattr dir eval exec exit gc getattr globals hasattr help id importlib license locals
methodcaller os quit setattr super vars sys chr format format_map""".split()
STATEMENTS = (
    ast.FunctionDef, ast.ClassDef, ast.ImportFrom, ast.Assign, ast.AugAssign, ast.If, ast.While, ast.For,
    ast.Return, ast.Break, ast.Continue, ast.Pass, ast.Raise, ast.Try, ast.Expr,
)
EXPRESSIONS = (
    ast.Constant, ast.List, ast.Tuple, ast.Dict, ast.Set, ast.BinOp, ast.UnaryOp, ast.BoolOp, ast.Compare,
    ast.IfExp, ast.Call, ast.Attribute, ast.Subscript, ast.Slice, ast.ListComp, ast.JoinedStr,
    ast.FormattedValue, ast.Lambda, ast.Name,
)


def is_text(node):
    return isinstance(node, ast.Expr) and isinstance(node.value, ast.Constant) and isinstance(node.value.value, str)


def form_faults(source):
    rows = source.split("\n")
    if len(rows) > 401:
        yield ("L10", 1, "more than 400 lines")
    for number, row in enumerate(rows, start=1):
        if len(row) > 120:
            yield ("L10", number, "more than 120 signs")
        if not all(" " <= sign <= "~" for sign in row):
            yield ("L14", number, "a sign beyond the blank to ~")
        if NEVER_WORDS.search(row):
            yield ("L17", number, NEVER_WORDS.search(row).group())


def top_faults(tree):
    body = tree.body[1:] if tree.body and is_text(tree.body[0]) else tree.body
    bound = []
    for node in body:
        if isinstance(node, ast.ImportFrom):
            bound += [name.name for name in node.names]
        elif isinstance(node, (ast.FunctionDef, ast.ClassDef)):
            bound.append(node.name)
        elif isinstance(node, ast.Assign):
            bound += [target.id for target in node.targets if isinstance(target, ast.Name)]
        else:
            yield ("L3", node.lineno, "not for the top of a file")
    for name in sorted(set(bound)):
        if bound.count(name) > 1:
            yield ("L15", 1, name + " is bound twice")
    inner = [node for top in body for node in ast.walk(top) if node is not top]
    for node in inner:
        if isinstance(node, (ast.ImportFrom, ast.ClassDef)):
            yield ("L2", node.lineno, "only at the top of a file")


def import_faults(node):
    if node.level or not (node.module or "").startswith("ringbeat."):
        yield ("L2", node.lineno, "not one of the package's own files")
    for name in node.names:
        if name.name == "*" or name.asname:
            yield ("L2", node.lineno, "a star or another name")


def def_faults(node):
    if node.decorator_list:
        yield ("L4", node.lineno, "a decorator")
    if node.args.vararg or node.args.kwarg or node.args.kwonlyargs or node.args.posonlyargs:
        yield ("L4", node.lineno, "a star or a slash among the parameters")
    if node.end_lineno - node.lineno >= 40:
        yield ("L10", node.lineno, "more than 40 lines")
    if node.name.startswith("_") and node.name not in DUNDER_METHODS:
        yield ("L12", node.lineno, node.name)


def class_faults(node):
    if len(node.bases) > 1 or node.keywords or node.decorator_list:
        yield ("L5", node.lineno, "more than a plain base")
    methods = [part.name for part in node.body if isinstance(part, ast.FunctionDef)]
    if len(set(methods)) < len(methods):
        yield ("L18", node.lineno, "a method stands twice")
    for part in node.body:
        if not isinstance(part, (ast.FunctionDef, ast.Pass)):
            yield ("L5", part.lineno, "not for a class body")


def statement_faults(node):
    if isinstance(node, (ast.For, ast.While)) and node.orelse:
        yield ("L6", node.lineno, "else behind a loop")
    if isinstance(node, ast.Try) and node.finalbody:
        yield ("L6", node.lineno, "finally")
    if isinstance(node, ast.Assign) and len(node.targets) > 1:
        yield ("L6", node.lineno, "several targets")
    if isinstance(node, ast.ExceptHandler):
        if node.type is None or ast.unparse(node.type) in ("Exception", "TypeError"):
            yield ("L19", node.lineno, "too wide a handler")


def value_faults(node):
    if isinstance(node, ast.Constant) and not (node.value is None or type(node.value) in (int, str, bool)):
        yield ("L7", node.lineno, "a value of another kind")
    if isinstance(node, ast.Constant) and isinstance(node.value, str) and "%" in node.value:
        yield ("L27", node.lineno, "a percent sign within a text")
    if isinstance(node, (ast.BinOp, ast.AugAssign)) and isinstance(node.op, (ast.Div, ast.MatMult)):
        yield ("L7", node.lineno, "an operator that is out")
    if isinstance(node, ast.ListComp):
        if len(node.generators) > 1 or len(node.generators[0].ifs) > 1:
            yield ("L7", node.lineno, "more than one for or if")
    if isinstance(node, ast.FormattedValue):
        if not isinstance(node.value, ast.Name) or node.format_spec or node.conversion not in (-1, ord("r")):
            yield ("L7", node.lineno, "more than a plain name in braces")
    if isinstance(node, ast.Compare):
        for operator, right in zip(node.ops, node.comparators):
            plain = isinstance(right, ast.Constant) and (right.value is None or isinstance(right.value, bool))
            if isinstance(operator, (ast.Is, ast.IsNot)) and not plain:
                yield ("L20", node.lineno, "is")


def name_faults(node):
    if isinstance(node, ast.arg):
        name = node.arg
        if hasattr(builtins, name):
            yield ("L15", node.lineno, name)
    elif isinstance(node, ast.Name):
        name = node.id
        if hasattr(builtins, name) and (name not in OWN_NAMES or not isinstance(node.ctx, ast.Load)):
            yield ("L8", node.lineno, name)
    elif isinstance(node, ast.Attribute):
        name = node.attr
    else:
        return
    if name in NEVER_NAMES:
        yield ("L17", node.lineno, name)
    if not name.isascii() or (name.startswith("_") and name not in DUNDER_METHODS):
        yield ("L12", node.lineno, name)


def kind_faults(node):
    if isinstance(node, ast.stmt) and not isinstance(node, STATEMENTS):
        yield ("L6", node.lineno, node.__class__.__name__)
    elif isinstance(node, ast.expr) and not isinstance(node, EXPRESSIONS):
        yield ("L7", node.lineno, node.__class__.__name__)
    elif isinstance(node, ast.ImportFrom):
        yield from import_faults(node)
    elif isinstance(node, ast.FunctionDef):
        yield from def_faults(node)
    elif isinstance(node, ast.ClassDef):
        yield from class_faults(node)


def file_faults(source):
    tree = ast.parse(source)
    found = list(form_faults(source)) + list(top_faults(tree))
    for node in ast.walk(tree):
        for faults in (kind_faults, statement_faults, value_faults, name_faults):
            found += list(faults(node))
        if isinstance(node, ast.Expr) and not isinstance(node.value, ast.Call) and node is not tree.body[0]:
            found.append(("L6", node.lineno, "a value by itself"))
    return found


def methods_and_values(trees):
    methods = []
    values = []
    for node in [node for tree in trees for node in ast.walk(tree)]:
        if isinstance(node, ast.ClassDef):
            methods += [part.name for part in node.body if isinstance(part, ast.FunctionDef)]
        if isinstance(node, ast.Attribute) and isinstance(node.ctx, ast.Store):
            values.append(node.attr)
    return (methods, values)


def package_faults(sources):
    trees = [ast.parse(source) for source in sources]
    methods, values = methods_and_values(trees)
    found = [("L18", 1, name) for name in sorted(set(methods) & set(values))]
    for node in [node for tree in trees for node in ast.walk(tree)]:
        if isinstance(node, ast.Call) and isinstance(node.func, ast.Attribute):
            if node.func.attr not in OWN_METHODS + methods:
                found.append(("L25", node.lineno, node.func.attr))
    return found


class Package(unittest.TestCase):
    def setUp(self):
        self.files = sorted(path for path in PACKAGE.rglob("*") if "__pycache__" not in path.parts)

    def test_files(self):
        self.assertIn(PACKAGE / "__init__.py", self.files)
        for path in self.files:
            with self.subTest(path=path.name):
                self.assertRegex(path.name, r"\A([a-z][a-z0-9_]*|__init__|__main__)\.py\Z")
                self.assertNotRegex(path.name, r"\A(test|site|conftest|sitecustomize|usercustomize)")
                self.assertFalse(hasattr(builtins, path.stem) and not path.stem.startswith("__"))

    def test_each_file(self):
        for path in self.files:
            with self.subTest(path=path.name):
                self.assertEqual(file_faults(path.read_text(encoding="utf-8")), [])

    def test_all_files_together(self):
        self.assertEqual(package_faults([path.read_text(encoding="utf-8") for path in self.files]), [])


class Finding(unittest.TestCase):
    """The rules above find what they are for, so that an empty list of faults says something."""

    BAD = (
        ("L2", "from .errors import BeatError\n"),
        ("L2", "def f():\n    from ringbeat.errors import BeatError\n    return BeatError()\n"),
        ("L2", "from math import gcd\n"),
        ("L3", "import os\n"),
        ("L3", "print(1)\n"),
        ("L4", "def f(*more):\n    return more\n"),
        ("L5", "class A:\n    value = 1\n"),
        ("L6", "def f(xs):\n    assert xs\n"),
        ("L6", "def f():\n    \"words\"\n"),
        ("L6", "def f(x):\n    a = b = x\n"),
        ("L7", "def f(x):\n    return x / 2\n"),
        ("L7", "HALF = 0.5\n"),
        ("L7", "def f(xs):\n    return sum(x for x in xs)\n"),
        ("L7", "def f(x):\n    return f\"{x + 1}\"\n"),
        ("L8", "def f(xs):\n    return map(len, xs)\n"),
        ("L10", "def f():\n" + "    pass\n" * 40),
        ("L10", "A = 1\n" * 401),
        ("L10", "A = " + "1" * 120 + "\n"),
        ("L12", "def _f():\n    pass\n"),
        ("L14", "A = 1\t\n"),
        ("L15", "A = 1\nA = 2\n"),
        ("L15", "def f(round):\n    return round\n"),
        ("L17", "# of this type\n"),
        ("L17", "def f(x):\n    return x.mro\n"),
        ("L18", "class A:\n    def f(self):\n        pass\n\n    def f(self):\n        pass\n"),
        ("L19", "def f(x):\n    try:\n        f(x)\n    except Exception:\n        pass\n"),
        ("L20", "def f(x, y):\n    return x is y\n"),
        ("L27", "A = \"5%\"\n"),
    )

    def test_faults_are_found(self):
        for rule, source in self.BAD:
            with self.subTest(source=source):
                rules = [fault[0] for fault in file_faults(source)]
                self.assertIn(rule, rules)

    def test_faults_of_the_whole_are_found(self):
        both = ["class A:\n    def ring(self):\n        pass\n", "def f(x):\n    x.ring = 1\n"]
        self.assertEqual([fault[0] for fault in package_faults(both)], ["L18"])
        self.assertEqual([fault[0] for fault in package_faults(["def f(x):\n    x.sort()\n"])], ["L25"])


if __name__ == "__main__":
    unittest.main()
