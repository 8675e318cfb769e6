"""Holds the package's files against the rules of LANGUAGE.md that can be seen file by file.

What it finds is told as (rule, line, what). It doesn't see all that the rules ask.
"""

import ast
import builtins
import re
import unittest
from pathlib import Path

PACKAGE = Path(__file__).resolve().parent.parent / "ringbeat"

OWN_NAMES = """len range enumerate zip min max sum abs sorted reversed int str bool list tuple dict set frozenset
isinstance ord repr any all divmod Exception ValueError TypeError KeyError IndexError LookupError
ZeroDivisionError ArithmeticError OverflowError RuntimeError NotImplementedError AttributeError StopIteration""".split()
OWN_METHODS = """append clear copy count endswith extend find get index insert isalnum isalpha isdigit islower
isspace isupper items join keys ljust lower lstrip partition pop remove replace reverse rfind rjust rpartition
rsplit rstrip setdefault split splitlines startswith strip update upper values zfill bit_length""".split()
DUNDER_METHODS = ["__init__", "__eq__", "__repr__", "__str__", "__len__"]
NEVER_WORDS = re.compile(
    r"\b(type|typing|typing_extensions|enum|Enum|IntEnum|StrEnum|Flag|IntFlag|Generic|Protocol|ABC|ABCMeta"
    r"|namedtuple|NamedTuple|TypedDict|TYPE_CHECKING|abstractmethod)\b|dataclass|overload|contextmanager"
)
NEVER_NAMES = """register mro elements open input version_info with_traceback add_note attrgetter breakpoint builtins
compile copyright credits delattr dir eval exec exit gc getattr globals hasattr help id importlib license locals
methodcaller os quit setattr super vars sys chr format format_map""".split()
COPIES = ("list", "tuple", "dict", "sorted")
CHANGES = "append clear extend insert pop remove reverse setdefault update".split()
KEYWORDS = {
    "sorted": ("key", "reverse"), "min": ("key", "default"), "max": ("key", "default"),
    "sum": ("start",), "enumerate": ("start",), "zip": ("strict",),
}
STATEMENTS = (
    ast.FunctionDef, ast.ClassDef, ast.ImportFrom, ast.Assign, ast.AugAssign, ast.If, ast.While, ast.For,
    ast.Return, ast.Break, ast.Continue, ast.Pass, ast.Raise, ast.Try, ast.Expr,
)
EXPRESSIONS = (
    ast.Constant, ast.List, ast.Tuple, ast.Dict, ast.Set, ast.BinOp, ast.UnaryOp, ast.BoolOp, ast.Compare,
    ast.IfExp, ast.Call, ast.Attribute, ast.Subscript, ast.Slice, ast.ListComp, ast.JoinedStr,
    ast.FormattedValue, ast.Lambda, ast.Name,
)


def is_text(node):
    return isinstance(node, ast.Expr) and isinstance(node.value, ast.Constant) and isinstance(node.value.value, str)


def form_faults(source):
    rows = source.split("\n")
    if len(rows) > 401:
        yield ("L10", 1, "more than 400 lines")
    for number, row in enumerate(rows, start=1):
        if len(row) > 120:
            yield ("L10", number, "more than 120 signs")
        if not all(" " <= sign <= "~" for sign in row):
            yield ("L14", number, "a sign beyond the blank to ~")
        if NEVER_WORDS.search(row):
            yield ("L17", number, NEVER_WORDS.search(row).group())


def top_faults(tree):
    body = tree.body[1:] if tree.body and is_text(tree.body[0]) else tree.body
    bound = []
    for node in body:
        if isinstance(node, ast.ImportFrom):
            bound += [name.name for name in node.names]
        elif isinstance(node, (ast.FunctionDef, ast.ClassDef)):
            bound.append(node.name)
        elif isinstance(node, ast.Assign):
            yield from plain_value_faults(node.value, bound)
            bound += [target.id for target in node.targets if isinstance(target, ast.Name)]
        else:
            yield ("L3", node.lineno, "not for the top of a file")
    for name in sorted(set(bound)):
        if bound.count(name) > 1:
            yield ("L15", 1, name + " is bound twice")
    inner = [node for top in body for node in ast.walk(top) if node is not top]
    for node in inner:
        if isinstance(node, (ast.ImportFrom, ast.ClassDef)):
            yield ("L2", node.lineno, "only at the top of a file")


def plain_value_faults(node, defined, inner=False):
    """L3 and L15: what a name of a file's top may be given."""
    if isinstance(node, ast.Constant) or (isinstance(node, ast.Name) and node.id in defined and inner):
        return
    if isinstance(node, ast.Dict) and not inner:
        values = node.keys + node.values
    elif isinstance(node, ast.Tuple) or (isinstance(node, ast.List) and not inner):
        values = node.elts
    else:
        yield ("L3", node.lineno, "not a plain value")
        return
    for value in values:
        yield from plain_value_faults(value, defined, True)


def local_faults(tree):
    """L15: a parameter or a local that is called like a class or an import of its file."""
    taken = [node.name for node in tree.body if isinstance(node, ast.ClassDef)]
    for node in tree.body:
        if isinstance(node, ast.ImportFrom):
            taken += [name.name for name in node.names]
    for top in tree.body:
        if isinstance(top, (ast.FunctionDef, ast.ClassDef)):
            for node in ast.walk(top):
                stored = isinstance(node, ast.Name) and isinstance(node.ctx, ast.Store) and node.id in taken
                if stored or (isinstance(node, ast.arg) and node.arg in taken):
                    yield ("L15", node.lineno, "called like a class or an import")


def kept_faults(tree, parents):
    """L15: lists and dicts of a file's top are only read."""
    kept = []
    for node in tree.body:
        if isinstance(node, ast.Assign) and isinstance(node.value, (ast.List, ast.Dict)):
            kept += [target.id for target in node.targets]
    for node in ast.walk(tree):
        if isinstance(node, ast.Name) and isinstance(node.ctx, ast.Load) and node.id in kept:
            above = parents[node]
            read = isinstance(above, (ast.Compare, ast.For, ast.comprehension))
            read = read or (isinstance(above, ast.Subscript) and isinstance(above.ctx, ast.Load))
            read = read or (isinstance(above, ast.Attribute) and above.attr in ("get", "index", "count"))
            read = read or (isinstance(above, ast.Call) and ast.unparse(above.func) in COPIES + ("len",))
            if not read:
                yield ("L15", node.lineno, node.id + " is more than read")


def calls_one_of(node, names):
    return isinstance(node, ast.Call) and isinstance(node.func, ast.Name) and node.func.id in names


def is_view(node):
    if isinstance(node, ast.Call) and isinstance(node.func, ast.Attribute):
        return node.func.attr in ("items", "keys", "values")
    return calls_one_of(node, ("zip", "enumerate", "reversed", "range"))


def is_walked(node, above):
    if isinstance(above, (ast.For, ast.comprehension)):
        return above.iter is node
    if calls_one_of(above, ("min", "max")):
        return above.args == [node]
    if isinstance(above, ast.Call) and isinstance(above.func, ast.Attribute):
        return above.func.attr == "join" and isinstance(above.func.value, ast.Constant)
    if calls_one_of(above, ("enumerate", "zip")):
        return True
    return calls_one_of(above, COPIES + ("sum", "any", "all")) and above.args[0] is node


def is_set_in_place(node, above, parents):
    while isinstance(above, ast.BinOp):
        node, above = above, parents[above]
    if calls_one_of(above, ("sorted", "len")):
        return not above.keywords
    return isinstance(above, ast.Compare)


def walk_faults(tree, parents):
    for node in ast.walk(tree):
        if is_view(node) and not is_walked(node, parents[node]):
            yield ("L23", node.lineno, "not walked on the spot")
        if calls_one_of(node, ("set", "frozenset")) and not is_set_in_place(node, parents[node], parents):
            yield ("L24", node.lineno, "a set that is kept or walked")
        if isinstance(node, ast.For):
            yield from changed_faults(node)


def changed_faults(loop):
    """L23: what a loop walks is not changed in it."""
    walked = [ast.unparse(loop.iter)]
    if is_view(loop.iter):
        walked = [ast.unparse(part) for part in loop.iter.args]
        if isinstance(loop.iter.func, ast.Attribute):
            walked.append(ast.unparse(loop.iter.func.value))
    for node in [node for part in loop.body for node in ast.walk(part)]:
        stored = isinstance(node, ast.Subscript) and isinstance(node.ctx, ast.Store)
        called = isinstance(node, ast.Attribute) and node.attr in CHANGES
        if (stored or called) and ast.unparse(node.value) in walked:
            yield ("L23", node.lineno, "changed while it is walked")


def keyword_faults(node):
    """L22: the keywords that Python's own names and error classes take."""
    if not isinstance(node, ast.Call) or not isinstance(node.func, ast.Name) or not hasattr(builtins, node.func.id):
        return
    for keyword in node.keywords:
        if keyword.arg not in KEYWORDS.get(node.func.id, ()):
            yield ("L22", node.lineno, "a keyword at one of Python's own names")


def power_faults(node):
    if isinstance(node, (ast.BinOp, ast.AugAssign)) and isinstance(node.op, ast.Pow):
        written = node.right if isinstance(node, ast.BinOp) else node.value
        if not isinstance(written, ast.Constant) or not 0 <= written.value <= 64:
            yield ("L27", node.lineno, "an exponent that isn't written out")


def import_faults(node):
    if node.level or not (node.module or "").startswith("ringbeat."):
        yield ("L2", node.lineno, "not one of the package's own files")
    for name in node.names:
        if name.name == "*" or name.asname:
            yield ("L2", node.lineno, "a star or another name")


def def_faults(node):
    if node.decorator_list:
        yield ("L4", node.lineno, "a decorator")
    if node.args.vararg or node.args.kwarg or node.args.kwonlyargs or node.args.posonlyargs:
        yield ("L4", node.lineno, "a star or a slash among the parameters")
    if node.end_lineno - node.lineno >= 40:
        yield ("L10", node.lineno, "more than 40 lines")
    if node.name.startswith("_") and node.name not in DUNDER_METHODS:
        yield ("L12", node.lineno, node.name)


def class_faults(node):
    if len(node.bases) > 1 or node.keywords or node.decorator_list:
        yield ("L5", node.lineno, "more than a plain base")
    methods = [part.name for part in node.body if isinstance(part, ast.FunctionDef)]
    if len(set(methods)) < len(methods):
        yield ("L18", node.lineno, "a method stands twice")
    for part in node.body:
        if not isinstance(part, (ast.FunctionDef, ast.Pass)):
            yield ("L5", part.lineno, "not for a class body")


def statement_faults(node):
    if isinstance(node, (ast.For, ast.While)) and node.orelse:
        yield ("L6", node.lineno, "else behind a loop")
    if isinstance(node, ast.Try) and node.finalbody:
        yield ("L6", node.lineno, "finally")
    if isinstance(node, ast.Assign):
        if len(node.targets) > 1 or isinstance(node.targets[0], (ast.Tuple, ast.List)):
            yield ("L6", node.lineno, "several targets")
    if isinstance(node, ast.ExceptHandler):
        if node.type is None or ast.unparse(node.type) in ("Exception", "TypeError"):
            yield ("L19", node.lineno, "too wide a handler")


def value_faults(node):
    if isinstance(node, ast.Constant) and not (node.value is None or type(node.value) in (int, str, bool)):
        yield ("L7", node.lineno, "a value of another kind")
    if isinstance(node, ast.Constant) and isinstance(node.value, str) and "%" in node.value:
        yield ("L27", node.lineno, "a percent sign within a text")
    if isinstance(node, (ast.BinOp, ast.AugAssign)) and isinstance(node.op, (ast.Div, ast.MatMult)):
        yield ("L7", node.lineno, "an operator that is out")
    if isinstance(node, ast.ListComp):
        if len(node.generators) > 1 or len(node.generators[0].ifs) > 1:
            yield ("L7", node.lineno, "more than one for or if")
    if isinstance(node, ast.FormattedValue):
        if not isinstance(node.value, ast.Name) or node.format_spec or node.conversion not in (-1, ord("r")):
            yield ("L7", node.lineno, "more than a plain name in braces")
    if isinstance(node, ast.Compare):
        for operator, right in zip(node.ops, node.comparators):
            plain = isinstance(right, ast.Constant) and (right.value is None or isinstance(right.value, bool))
            if isinstance(operator, (ast.Is, ast.IsNot)) and not plain:
                yield ("L20", node.lineno, "is")


def name_faults(node):
    if isinstance(node, ast.arg):
        name = node.arg
        if hasattr(builtins, name):
            yield ("L15", node.lineno, name)
    elif isinstance(node, ast.Name):
        name = node.id
        if hasattr(builtins, name) and (name not in OWN_NAMES or not isinstance(node.ctx, ast.Load)):
            yield ("L8", node.lineno, name)
    elif isinstance(node, ast.Attribute):
        name = node.attr
    else:
        return
    if name in NEVER_NAMES:
        yield ("L17", node.lineno, name)
    if not name.isascii() or (name.startswith("_") and name not in DUNDER_METHODS):
        yield ("L12", node.lineno, name)


def kind_faults(node):
    if isinstance(node, ast.stmt) and not isinstance(node, STATEMENTS):
        yield ("L6", node.lineno, node.__class__.__name__)
    elif isinstance(node, ast.expr) and not isinstance(node, EXPRESSIONS):
        yield ("L7", node.lineno, node.__class__.__name__)
    elif isinstance(node, ast.ImportFrom):
        yield from import_faults(node)
    elif isinstance(node, ast.FunctionDef):
        yield from def_faults(node)
    elif isinstance(node, ast.ClassDef):
        yield from class_faults(node)


def file_faults(source):
    tree = ast.parse(source)
    parents = {part: node for node in ast.walk(tree) for part in ast.iter_child_nodes(node)}
    found = list(form_faults(source)) + list(top_faults(tree)) + list(local_faults(tree))
    found += list(kept_faults(tree, parents)) + list(walk_faults(tree, parents))
    for node in ast.walk(tree):
        for faults in (kind_faults, statement_faults, value_faults, name_faults, keyword_faults, power_faults):
            found += list(faults(node))
        if isinstance(node, ast.Expr) and not isinstance(node.value, ast.Call) and node is not tree.body[0]:
            found.append(("L6", node.lineno, "a value by itself"))
    return found


def methods_and_values(trees):
    methods = []
    values = []
    for node in [node for tree in trees for node in ast.walk(tree)]:
        if isinstance(node, ast.ClassDef):
            methods += [part.name for part in node.body if isinstance(part, ast.FunctionDef)]
        if isinstance(node, ast.Attribute) and isinstance(node.ctx, ast.Store):
            values.append(node.attr)
    return (methods, values)


def package_faults(sources):
    trees = [ast.parse(source) for source in sources]
    methods, values = methods_and_values(trees)
    found = [("L18", 1, name) for name in sorted(set(methods) & set(values))]
    for node in [node for tree in trees for node in ast.walk(tree)]:
        if isinstance(node, ast.Call) and isinstance(node.func, ast.Attribute):
            if node.func.attr not in OWN_METHODS + methods:
                found.append(("L25", node.lineno, node.func.attr))
    return found


def drawing_faults(sources):
    """L16, of a dict from the files' names to their texts: each name from where it is defined, and no circles."""
    trees = {name: ast.parse(source) for name, source in sources.items()}
    drawn = {name: [node for node in tree.body if isinstance(node, ast.ImportFrom)] for name, tree in trees.items()}
    files = {name: [node.module.split(".")[-1] for node in nodes] for name, nodes in drawn.items()}
    for name, nodes in drawn.items():
        for node, file in zip(nodes, files[name]):
            defined = [top.name for top in trees[file].body if isinstance(top, (ast.FunctionDef, ast.ClassDef))]
            for part in node.names:
                if part.name not in defined:
                    yield ("L16", node.lineno, part.name + " is not defined in " + file)
    reached = dict(files)
    for step in files:
        reached = {name: sorted({far for near in files[name] for far in [near] + reached[near]}) for name in files}
    for name in files:
        if name in reached[name]:
            yield ("L16", 1, name + " draws from itself")


class Package(unittest.TestCase):
    def setUp(self):
        self.files = sorted(path for path in PACKAGE.rglob("*") if "__pycache__" not in path.parts)

    def test_files(self):
        self.assertIn(PACKAGE / "__init__.py", self.files)
        for path in self.files:
            with self.subTest(path=path.name):
                self.assertRegex(path.name, r"\A([a-z][a-z0-9_]*|__init__|__main__)\.py\Z")
                self.assertNotRegex(path.name, r"\A(test|site|conftest|sitecustomize|usercustomize)")
                self.assertFalse(hasattr(builtins, path.stem) and not path.stem.startswith("__"))

    def test_each_file(self):
        for path in self.files:
            with self.subTest(path=path.name):
                self.assertEqual(file_faults(path.read_text(encoding="utf-8")), [])

    def test_all_files_together(self):
        sources = {path.stem: path.read_text(encoding="utf-8") for path in self.files}
        self.assertEqual(package_faults(sources.values()), [])
        self.assertEqual(list(drawing_faults(sources)), [])


class Finding(unittest.TestCase):
    """The rules above find what they are for, so that an empty list of faults says something."""

    BAD = (
        ("L2", "from .errors import BeatError\n"),
        ("L2", "def f():\n    from ringbeat.errors import BeatError\n    return BeatError()\n"),
        ("L2", "from math import gcd\n"),
        ("L3", "import os\n"),
        ("L3", "print(1)\n"),
        ("L4", "def f(*more):\n    return more\n"),
        ("L5", "class A:\n    value = 1\n"),
        ("L6", "def f(xs):\n    assert xs\n"),
        ("L6", "def f():\n    \"words\"\n"),
        ("L6", "def f(x):\n    a = b = x\n"),
        ("L7", "def f(x):\n    return x / 2\n"),
        ("L7", "HALF = 0.5\n"),
        ("L7", "def f(xs):\n    return sum(x for x in xs)\n"),
        ("L7", "def f(x):\n    return f\"{x + 1}\"\n"),
        ("L8", "def f(xs):\n    return map(len, xs)\n"),
        ("L10", "def f():\n" + "    pass\n" * 40),
        ("L10", "A = 1\n" * 401),
        ("L10", "A = " + "1" * 120 + "\n"),
        ("L12", "def _f():\n    pass\n"),
        ("L14", "A = 1\t\n"),
        ("L15", "A = 1\nA = 2\n"),
        ("L15", "def f(round):\n    return round\n"),
        ("L17", "# of this type\n"),
        ("L17", "def f(x):\n    return x.mro\n"),
        ("L18", "class A:\n    def f(self):\n        pass\n\n    def f(self):\n        pass\n"),
        ("L19", "def f(x):\n    try:\n        f(x)\n    except Exception:\n        pass\n"),
        ("L20", "def f(x, y):\n    return x is y\n"),
        ("L27", "A = \"5%\"\n"),
        ("L3", "A = 10 ** 9\n"),
        ("L3", "A = [[1], [2]]\n"),
        ("L3", "A = {\"a\": f}\n\n\ndef f():\n    pass\n"),
        ("L6", "def f(x):\n    a, b = x\n"),
        ("L15", "from ringbeat.late import late\n\n\ndef f(late):\n    return late\n"),
        ("L15", "from ringbeat.late import late\n\n\ndef f(x):\n    late = x\n"),
        ("L15", "A = [1]\n\n\ndef f():\n    return A\n"),
        ("L15", "A = [1]\n\n\ndef f():\n    A.append(2)\n"),
        ("L22", "def f(x):\n    return str(object=x)\n"),
        ("L22", "def f(x):\n    raise ValueError(x=x)\n"),
        ("L23", "def f(xs):\n    ys = reversed(xs)\n    return list(ys)\n"),
        ("L23", "def f(x):\n    return x.items()\n"),
        ("L23", "def f(xs):\n    for x in xs:\n        xs.append(x)\n"),
        ("L23", "def f(xs):\n    for k, x in enumerate(xs):\n        xs[k] = 0\n"),
        ("L24", "def f(xs):\n    ys = set(xs)\n    return len(ys)\n"),
        ("L27", "def f(n):\n    return 2 ** n\n"),
    )
    GOOD = (
        "def f():\n    pass\n\n\nA = {\"a\": f, \"b\": (1, (2, None))}\n\n\ndef g(x):\n    return A[x]() in A\n",
        "def f(xs):\n    for k, x in enumerate(reversed(xs)):\n        f(x)\n    return sorted(set(xs) - set([1]))\n",
        "def f(xs, d):\n    return max(range(3)) + sum([x for x in d.values()], start=2) + 10 ** 9\n",
    )

    def test_what_is_no_fault_is_let_by(self):
        for source in self.GOOD:
            with self.subTest(source=source):
                self.assertEqual(file_faults(source), [])

    def test_faults_are_found(self):
        for rule, source in self.BAD:
            with self.subTest(source=source):
                rules = [fault[0] for fault in file_faults(source)]
                self.assertIn(rule, rules)

    def test_faults_of_the_whole_are_found(self):
        both = ["class A:\n    def ring(self):\n        pass\n", "def f(x):\n    x.ring = 1\n"]
        self.assertEqual([fault[0] for fault in package_faults(both)], ["L18"])
        self.assertEqual([fault[0] for fault in package_faults(["def f(x):\n    x.sort()\n"])], ["L25"])
        circle = {"a": "from ringbeat.b import g\n", "b": "from ringbeat.a import f\n\n\ndef g():\n    f()\n"}
        self.assertEqual([fault[0] for fault in drawing_faults(circle)], ["L16"] * 3)


if __name__ == "__main__":
    unittest.main()
