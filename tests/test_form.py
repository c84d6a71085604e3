"""Whether the package keeps to the small part of Python that it is written in."""

import ast
import builtins
import pathlib
import re
import unittest

PACKAGE = pathlib.Path(__file__).resolve().parent.parent / "purseweb"

STATEMENTS = (
    "FunctionDef", "ClassDef", "Assign", "AugAssign", "If", "While", "For", "Return", "Break", "Continue", "Pass",
    "Raise", "Try", "ExceptHandler", "Expr", "ImportFrom",
)
EXPRESSIONS = (
    "BinOp", "UnaryOp", "BoolOp", "Compare", "IfExp", "Call", "Attribute", "Subscript", "Slice", "ListComp",
    "comprehension", "JoinedStr", "FormattedValue", "Constant", "Name", "List", "Tuple", "Dict", "Lambda",
    "Load", "Store", "arguments", "arg", "keyword", "alias", "Module",
)
OPERATORS = (
    "Add", "Sub", "Mult", "FloorDiv", "Mod", "Pow", "BitAnd", "BitOr", "BitXor", "LShift", "RShift", "Invert", "USub",
    "UAdd", "Not", "And", "Or", "Eq", "NotEq", "Lt", "LtE", "Gt", "GtE", "Is", "IsNot", "In", "NotIn",
)
OWN_NAMES = (
    "len range enumerate zip min max sum abs sorted reversed int str bool list tuple dict set frozenset isinstance ord "
    "repr any all divmod ValueError KeyError IndexError LookupError ZeroDivisionError StopIteration"
).split()
OWN_METHODS = (
    "append clear copy count endswith extend find get index insert isalnum isalpha isdigit islower isspace isupper "
    "items join keys ljust lower lstrip partition pop remove replace reverse rfind rjust rpartition rsplit rstrip "
    "setdefault split splitlines startswith strip update upper values zfill bit_length"
).split()
TWO_UNDERSCORES = ("__init__", "__eq__", "__repr__", "__str__", "__len__")
WORDS_NOWHERE = re.compile(
    r"\b(type|typing|typing_extensions|enum|Enum|IntEnum|StrEnum|Flag|IntFlag|Generic|Protocol|ABC|ABCMeta|namedtuple"
    r"|NamedTuple|TypedDict|TYPE_CHECKING|abstractmethod)\b|dataclass|overload|contextmanager"
)


def kept_names(tree):
    """The names of methods and of values of objects that the file itself makes."""
    methods = [node.name for node in ast.walk(tree) if isinstance(node, ast.FunctionDef)]
    attributes = [node for node in ast.walk(tree) if isinstance(node, ast.Attribute)]
    return methods + [node.attr for node in attributes if isinstance(node.ctx, ast.Store)]


def bound_names(tree):
    for node in ast.walk(tree):
        if isinstance(node, (ast.FunctionDef, ast.ClassDef)):
            yield node.name
        elif isinstance(node, ast.arg):
            yield node.arg
        elif isinstance(node, ast.Name) and isinstance(node.ctx, ast.Store):
            yield node.id


def faults_of_text(text):
    if re.search("[^ -~\n]", text):
        yield "L14: a sign that is none from the blank to ~"
    if WORDS_NOWHERE.search(text):
        yield "L17: a word that stands nowhere"
    lines = text.split("\n")
    if len(lines) > 400 or max(map(len, lines)) > 120:
        yield "L10: too long"


def called(node):
    return node.func.id if isinstance(node, ast.Call) and isinstance(node.func, ast.Name) else None


def in_their_place(tree):
    """What is walked on the spot or asked with `in`, each with its parts where it is put together of several."""
    for node in ast.walk(tree):
        if isinstance(node, (ast.For, ast.comprehension)):
            yield "walked", node.iter
        elif isinstance(node, ast.Compare):
            yield from [("set", part) for part in (node.left, *node.comparators)]
        elif called(node) in ("list", "tuple", "dict", "sorted", "sum", "any", "all", "enumerate", "zip"):
            yield from [("walked", part) for part in node.args[:1]]
        elif called(node) in ("min", "max") and len(node.args) == 1:
            yield "walked", node.args[0]
        if called(node) == "zip":
            yield from [("walked", part) for part in node.args]
        if called(node) in ("sorted", "len") and not node.keywords:
            yield from [("set", part) for part in ast.walk(node.args[0])]


def faults_of_places(tree):
    places = [(place, id(node)) for place, node in in_their_place(tree)]
    for node in ast.walk(tree):
        method = isinstance(node, ast.Call) and isinstance(node.func, ast.Attribute) and node.func.attr
        if called(node) in ("zip", "enumerate", "reversed", "range") or method in ("items", "keys", "values"):
            if ("walked", id(node)) not in places:
                yield "L23: not walked on the spot"
        if called(node) in ("set", "frozenset") and ("set", id(node)) not in places:
            yield "L24: a set that is kept or walked"


def faults_of_names(tree):
    imported = [alias.name for node in tree.body if isinstance(node, ast.ImportFrom) for alias in node.names]
    tops = [node.name for node in tree.body if isinstance(node, (ast.FunctionDef, ast.ClassDef))] + imported
    if len(tops) > len(set(tops)):
        yield "L15: a name bound twice"
    for name in bound_names(tree):
        if name in imported:
            yield f"L15: {name}"
        if name.startswith("_") and name not in TWO_UNDERSCORES:
            yield f"L12: {name}"
        if hasattr(builtins, name) and name not in TWO_UNDERSCORES:
            yield f"L15: {name}"
    kept = kept_names(tree)
    for node in ast.walk(tree):
        if isinstance(node, ast.Name) and hasattr(builtins, node.id) and node.id not in OWN_NAMES:
            yield f"L8: {node.id}"
        if isinstance(node, ast.Attribute) and node.attr not in OWN_METHODS + ["__init__"] + kept:
            yield f"L25: {node.attr}"


def faults_of_node(node):
    kind = type(node).__name__
    if kind not in STATEMENTS + EXPRESSIONS + OPERATORS:
        yield f"L6, L7: {kind}"
    if isinstance(node, ast.FunctionDef):
        bare = node.args
        if node.decorator_list or bare.vararg or bare.kwarg or bare.kwonlyargs or bare.posonlyargs:
            yield f"L4: {node.name}"
        if node.end_lineno - node.lineno >= 40:
            yield f"L10: {node.name}"
    if isinstance(node, ast.ClassDef):
        if node.decorator_list or len(node.bases) > 1 or node.keywords:
            yield f"L5: {node.name}"
        if not all(isinstance(part, (ast.FunctionDef, ast.Pass)) for part in node.body):
            yield f"L5: {node.name}"
    if isinstance(node, (ast.For, ast.While)) and node.orelse or isinstance(node, ast.Try) and node.finalbody:
        yield f"L6: {kind}"
    if isinstance(node, ast.Assign) and len(node.targets) > 1:
        yield "L6: several targets"
    if isinstance(node, ast.ListComp) and (len(node.generators) > 1 or len(node.generators[0].ifs) > 1):
        yield "L7: a list comprehension"
    if isinstance(node, ast.FormattedValue) and not isinstance(node.value, ast.Name):
        yield "L7: an f-string"
    if isinstance(node, ast.Constant) and isinstance(node.value, (float, complex, bytes)):
        yield "L7: a value"
    if isinstance(node, ast.Compare):
        for operator, right in zip(node.ops, node.comparators):
            beside = right.value if isinstance(right, ast.Constant) else 0
            if isinstance(operator, (ast.Is, ast.IsNot)) and not (beside is None or isinstance(beside, bool)):
                yield "L20: is"
    if isinstance(node, ast.ImportFrom):
        if node.level or not node.module.startswith("purseweb.") or "*" in [alias.name for alias in node.names]:
            yield f"L2: {node.module}"


def faults_of_statements(tree):
    for part in tree.body[1:]:
        if not isinstance(part, (ast.ImportFrom, ast.FunctionDef, ast.ClassDef, ast.Assign)):
            yield "L3: done at the top"
    for node in ast.walk(tree):
        if isinstance(node, ast.Expr) and not isinstance(node.value, ast.Call) and node != tree.body[0]:
            yield "L6: an expression by itself"


def faults(text):
    tree = ast.parse(text)
    told = list(faults_of_text(text)) + list(faults_of_names(tree)) + list(faults_of_statements(tree))
    told.extend(faults_of_places(tree))
    for node in ast.walk(tree):
        told.extend(faults_of_node(node))
    return told


def drawn_from(path):
    tree = ast.parse(path.read_text(encoding="ascii"))
    return [node.module.split(".")[1] for node in tree.body if isinstance(node, ast.ImportFrom)]


class FormTest(unittest.TestCase):
    def test_only_plainly_named_python_files_lie_in_the_package(self):
        names = [path.name for path in PACKAGE.iterdir() if path.name != "__pycache__"]
        self.assertIn("__init__.py", names)
        for name in names:
            self.assertRegex(name, r"\A(__init__|__main__|[a-z][a-z0-9_]*)\.py\Z")

    def test_every_file_keeps_to_the_form(self):
        for path in sorted(PACKAGE.glob("*.py")):
            with self.subTest(path.name):
                self.assertEqual(faults(path.read_text(encoding="utf-8")), [])

    def test_no_two_files_draw_from_one_another(self):
        drawn = {path.stem: drawn_from(path) for path in PACKAGE.glob("*.py")}
        while drawn:
            free = [name for name in drawn if not set(drawn[name]) & set(drawn)]
            self.assertTrue(free, drawn)
            drawn = {name: sources for name, sources in drawn.items() if name not in free}

    def test_code_outside_the_form_is_seen(self):
        for text in (
            "import os", "from os import path", "from .errors import NoWeb", "from purseweb.errors import *",
            "a = 1 / 2", "a = 0.5", "a = b = 1", "a = {1}", "a = {k: 1 for k in b}", "def f():\n    yield 1",
            "a = sum(k for k in b)", "def f(*a):\n    pass", "def f():\n    'a text'", "class A:\n    a = 1",
            "_a = 1", "list = 1", "def f(id):\n    return 1", "a = map", "a = b.sort()", "a = b is c", "a = b is 1",
            "a = [k for k in b for c in k]", "a = [k for k in b if k if c]", "a = f'{b.c}'", "# type",
            "a = 'dataclasses'", "# caf\u00e9", "a = 1\t", "for a in b:\n    pass", "with a:\n    pass",
            "def f():\n    del a", "def f():\n    assert a",
            "def f():\n    for a in b:\n        pass\n    else:\n        pass",
            "def f():\n    try:\n        pass\n    finally:\n        pass", "def f():\n" + "    f()\n" * 40,
            "# " + "a" * 120, "a = 1\n" * 401, "a = (b := 1)", "a = [*b]", "a = b'c'",
            "from purseweb.webs import loops\ndef f(loops):\n    return 1",
            "from purseweb.webs import loops\ndef f():\n    loops = 1", "def f():\n    pass\ndef f():\n    pass",
            "def f(a):\n    return reversed(a)", "def f(a):\n    b = a.items()", "def f(a):\n    b = range(a)[1]",
            "def f(a):\n    for b in set(a):\n        pass", "def f(a):\n    return set(a)",
            "def f(a):\n    return min(range(a), 3)",
        ):
            with self.subTest(text[:80]):
                self.assertNotEqual(faults('"""A file."""\n' + text), [])


if __name__ == "__main__":
    unittest.main()
