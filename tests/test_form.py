"""Whether the package keeps to the small part of Python that it is written in."""

import ast
import builtins
import pathlib
import re
import unittest

PACKAGE = pathlib.Path(__file__).resolve().parent.parent / "purseweb"

STATEMENTS = (
    "FunctionDef", "ClassDef", "Assign", "AugAssign", "If", "While", "For", "Return", "Break", "Continue", "Pass",
    "Raise", "Try", "ExceptHandler", "Expr", "ImportFrom",
)
EXPRESSIONS = (
    "BinOp", "UnaryOp", "BoolOp", "Compare", "IfExp", "Call", "Attribute", "Subscript", "Slice", "ListComp",
    "comprehension", "JoinedStr", "FormattedValue", "Constant", "Name", "List", "Tuple", "Dict", "Lambda",
    "Load", "Store", "arguments", "arg", "keyword", "alias", "Module",
)
OPERATORS = (
    "Add", "Sub", "Mult", "FloorDiv", "Mod", "Pow", "BitAnd", "BitOr", "BitXor", "LShift", "RShift", "Invert", "USub",
    "UAdd", "Not", "And", "Or", "Eq", "NotEq", "Lt", "LtE", "Gt", "GtE", "Is", "IsNot", "In", "NotIn",
)
OWN_NAMES = (
    "len range enumerate zip min max sum abs sorted reversed int str bool list tuple dict set frozenset isinstance ord "
    "repr any all divmod ValueError KeyError IndexError LookupError ZeroDivisionError StopIteration"
).split()
OWN_METHODS = (
    "append clear copy count endswith extend find get index insert isalnum isalpha isdigit islower isspace isupper "
    "items join keys ljust lower lstrip partition pop remove replace reverse rfind rjust rpartition rsplit rstrip "
    "setdefault split splitlines startswith strip update upper values zfill bit_length"
).split()
TWO_UNDERSCORES = ("__init__", "__eq__", "__repr__", "__str__", "__len__")
WORDS_NOWHERE = re.compile(
    r"\b(type|typing|typing_extensions|enum|Enum|IntEnum|StrEnum|Flag|IntFlag|Generic|Protocol|ABC|ABCMeta|namedtuple"
    r"|NamedTuple|TypedDict|TYPE_CHECKING|abstractmethod)\b|dataclass|overload|contextmanager"
)


def kept_names(tree):
    """The names of methods and of values of objects that the file itself makes."""
    methods = [node.name for node in ast.walk(tree) if isinstance(node, ast.FunctionDef)]
    attributes = [node for node in ast.walk(tree) if isinstance(node, ast.Attribute)]
    return methods + [node.attr for node in attributes if isinstance(node.ctx, ast.Store)]


def bound_names(tree):
    for node in ast.walk(tree):
        if isinstance(node, (ast.FunctionDef, ast.ClassDef)):
            yield node.name
        elif isinstance(node, ast.arg):
            yield node.arg
        elif isinstance(node, ast.Name) and isinstance(node.ctx, ast.Store):
            yield node.id


def faults_of_text(text):
    if re.search("[^ -~\n]", text):
        yield "L14: a sign that is none from the blank to ~"
    if WORDS_NOWHERE.search(text):
        yield "L17: a word that stands nowhere"
    lines = text.split("\n")
    if len(lines) > 400 or max(map(len, lines)) > 120:
        yield "L10: too long"


def called(node):
    return node.func.id if isinstance(node, ast.Call) and isinstance(node.func, ast.Name) else None


def in_their_place(tree):
    """What is walked on the spot or asked with `in`, each with its parts where it is put together of several."""
    for node in ast.walk(tree):
        if isinstance(node, (ast.For, ast.comprehension)):
            yield "walked", node.iter
        elif isinstance(node, ast.Compare):
            yield from [("set", part) for part in (node.left, *node.comparators)]
        elif called(node) in ("list", "tuple", "dict", "sorted", "sum", "any", "all", "enumerate", "zip"):
            yield from [("walked", part) for part in node.args[:1]]
        elif called(node) in ("min", "max") and len(node.args) == 1:
            yield "walked", node.args[0]
        if called(node) == "zip":
            yield from [("walked", part) for part in node.args]
        if called(node) in ("sorted", "len") and not node.keywords:
            yield from [("set", part) for part in ast.walk(node.args[0])]


def faults_of_places(tree):
    places = [(place, id(node)) for place, node in in_their_place(tree)]
    for node in ast.walk(tree):
        method = isinstance(node, ast.Call) and isinstance(node.func, ast.Attribute) and node.func.attr
        if called(node) in ("zip", "enumerate", "reversed", "range") or method in ("items", "keys", "values"):
            if ("walked", id(node)) not in places:
                yield "L23: not walked on the spot"
        if called(node) in ("set", "frozenset") and ("set", id(node)) not in places:
            yield "L24: a set that is kept or walked"


def faults_of_names(tree):
    imported = [alias.name for node in tree.body if isinstance(node, ast.ImportFrom) for alias in node.names]
    tops = [node.name for node in tree.body if isinstance(node, (ast.FunctionDef, ast.ClassDef))] + imported
    if len(tops) > len(set(tops)):
        yield "L15: a name bound twice"
    for name in bound_names(tree):
        if name in imported:
            yield f"L15: {name}"
        if name.startswith("_") and name not in TWO_UNDERSCORES:
            yield f"L12: {name}"
        if hasattr(builtins, name) and name not in TWO_UNDERSCORES:
            yield f"L15: {name}"
    kept = kept_names(tree)
    for node in ast.walk(tree):
        if isinstance(node, ast.Name) and hasattr(builtins, node.id) and node.id not in OWN_NAMES:
            yield f"L8: {node.id}"
        if isinstance(node, ast.Attribute) and node.attr not in OWN_METHODS + ["__init__"] + kept:
            yield f"L25: {node.attr}"


def faults_of_node(node):
    kind = type(node).__name__
    if kind not in STATEMENTS + EXPRESSIONS + OPERATORS:
        yield f"L6, L7: {kind}"
    if isinstance(node, ast.FunctionDef):
        bare = node.args
        if node.decorator_list or bare.vararg or bare.kwarg or bare.kwonlyargs or bare.posonlyargs:
            yield f"L4: {node.name}"
        if node.end_lineno - node.lineno >= 40:
            yield f"L10: {node.name}"
    if isinstance(node, ast.ClassDef):
        if node.decorator_list or len(node.bases) > 1 or node.keywords:
            yield f"L5: {node.name}"
        if not all(isinstance(part, (ast.FunctionDef, ast.Pass)) for part in node.body):
            yield f"L5: {node.name}"
    if isinstance(node, (ast.For, ast.While)) and node.orelse or isinstance(node, ast.Try) and node.finalbody:
        yield f"L6: {kind}"
    if isinstance(node, ast.Assign) and len(node.targets) > 1:
        yield "L6: several targets"
    if isinstance(node, ast.ListComp) and (len(node.generators) > 1 or len(node.generators[0].ifs) > 1):
        yield "L7: a list comprehension"
    if isinstance(node, ast.FormattedValue) and not isinstance(node.value, ast.Name):
        yield "L7: an f-string"
    if isinstance(node, ast.Constant) and isinstance(node.value, (float, complex, bytes)):
        yield "L7: a value"
    if isinstance(node, ast.Compare):
        for operator, right in zip(node.ops, node.comparators):
            beside = right.value if isinstance(right, ast.Constant) else 0
            if isinstance(operator, (ast.Is, ast.IsNot)) and not (beside is None or isinstance(beside, bool)):
                yield "L20: is"
    if isinstance(node, ast.ImportFrom):
        if node.level or not node.module.startswith("purseweb.") or "*" in [alias.name for alias in node.names]:
            yield f"L2: {node.module}"


def faults_of_statements(tree):
    for part in tree.body[1:]:
        if not isinstance(part, (ast.ImportFrom, ast.FunctionDef, ast.ClassDef, ast.Assign)):
            yield "L3: done at the top"
    for node in ast.walk(tree):
        if isinstance(node, ast.Expr) and not isinstance(node.value, ast.Call) and node != tree.body[0]:
            yield "L6: an expression by itself"


def is_plain(node, functions):
    """A whole number, a text, a truth, None, or a list, tuple or dict of these and of functions."""
    if isinstance(node, (ast.List, ast.Tuple)):
        return all(is_plain(part, functions) for part in node.elts)
    if isinstance(node, ast.Dict):
        return all(part is not None and is_plain(part, functions) for part in node.keys + node.values)
    if isinstance(node, ast.UnaryOp):
        return isinstance(node.op, ast.USub) and isinstance(node.operand, ast.Constant)
    return isinstance(node, ast.Constant) or isinstance(node, ast.Name) and node.id in functions


def only_read(node, above):
    """Whether a list or dict of the top is only read where its name stands."""
    if isinstance(above, ast.Subscript):
        return isinstance(above.ctx, ast.Load)
    if isinstance(above, ast.Attribute):
        return above.attr in ("get", "items", "keys", "values", "index", "count")
    if isinstance(above, (ast.For, ast.comprehension)):
        return above.iter is node
    return isinstance(above, ast.Compare) or called(above) in ("len", "list", "tuple", "dict", "sorted", "enumerate")


def faults_of_tops(tree):
    functions = []
    kept = []
    for part in tree.body:
        if isinstance(part, ast.FunctionDef):
            functions.append(part.name)
        if isinstance(part, ast.Assign):
            if not is_plain(part.value, functions):
                yield "L3: no plain value at the top"
            if isinstance(part.value, (ast.List, ast.Dict)):
                kept.extend(target.id for target in part.targets)
                inner = [node for node in ast.walk(part.value) if isinstance(node, (ast.List, ast.Dict))]
                if len(inner) > 1:
                    yield "L15: a list or dict within another one"
    for above in ast.walk(tree):
        for node in ast.iter_child_nodes(above):
            if isinstance(node, ast.Name) and node.id in kept and isinstance(node.ctx, ast.Load):
                if not only_read(node, above):
                    yield f"L15: {node.id} is not only read"


def faults_of_classes(tree):
    """Classes are the names that begin with a capital and don't go on so."""
    for above in ast.walk(tree):
        for node in ast.iter_child_nodes(above):
            if isinstance(node, ast.Name) and node.id[0].isupper() and not node.id.isupper():
                base = isinstance(above, (ast.ClassDef, ast.ExceptHandler))
                made = isinstance(above, ast.Call) and (above.func is node or called(above) == "isinstance")
                first = isinstance(above, ast.Attribute) and above.attr == "__init__"
                if not (base or made or first):
                    yield f"L18: {node.id}"


def faults_of_errors(node):
    if isinstance(node, ast.ExceptHandler):
        wide = ("Exception", "TypeError", "ValueError", "LookupError", "IndexError")
        if not isinstance(node.type, ast.Name) or node.type.id in wide:
            yield "L19: what is taken"
    if isinstance(node, ast.Raise):
        cause = node.cause
        if not isinstance(node.exc, ast.Call) or not (cause is None or isinstance(cause, (ast.Name, ast.Constant))):
            yield "L19: what is raised"


def faults_of_calls(node):
    if isinstance(node, ast.Call) and node.keywords:
        allowed = {
            "sorted": ("key", "reverse"), "min": ("key", "default"), "max": ("key", "default"), "sum": ("start",),
            "enumerate": ("start",), "zip": ("strict",),
        }.get(called(node), ())
        if any(keyword.arg not in allowed for keyword in node.keywords):
            yield "L22: a keyword"
    if isinstance(node, (ast.arg, ast.FunctionDef)):
        if getattr(node, "annotation", None) or getattr(node, "returns", None):
            yield "L21: an annotation"
    if isinstance(node, ast.BinOp) and isinstance(node.op, ast.Pow) and not isinstance(node.right, ast.Constant):
        yield "L27: a power"
    if isinstance(node, ast.Constant) and isinstance(node.value, str) and "%" in node.value:
        yield "L27: a sign within a text"


def faults(text):
    tree = ast.parse(text)
    told = list(faults_of_text(text)) + list(faults_of_names(tree)) + list(faults_of_statements(tree))
    told.extend(faults_of_places(tree))
    told.extend(faults_of_tops(tree))
    told.extend(faults_of_classes(tree))
    for node in ast.walk(tree):
        told.extend(faults_of_node(node))
        told.extend(faults_of_errors(node))
        told.extend(faults_of_calls(node))
    return told


def kept_in_classes(tree):
    """The names of the methods of a file's classes, and those of the values of its objects."""
    classes = [node for node in tree.body if isinstance(node, ast.ClassDef)]
    methods = [part.name for node in classes for part in node.body if isinstance(part, ast.FunctionDef)]
    stores = [node for node in ast.walk(tree) if isinstance(node, ast.Attribute) and isinstance(node.ctx, ast.Store)]
    return {name for name in methods if name != "__init__"}, {node.attr for node in stores}


def drawn_from(path):
    tree = ast.parse(path.read_text(encoding="ascii"))
    return [node.module.split(".")[1] for node in tree.body if isinstance(node, ast.ImportFrom)]


class FormTest(unittest.TestCase):
    def test_only_plainly_named_python_files_lie_in_the_package(self):
        names = [path.name for path in PACKAGE.iterdir() if path.name != "__pycache__"]
        self.assertIn("__init__.py", names)
        for name in names:
            self.assertRegex(name, r"\A(__init__|__main__|[a-z][a-z0-9_]*)\.py\Z")

    def test_every_file_keeps_to_the_form(self):
        for path in sorted(PACKAGE.glob("*.py")):
            with self.subTest(path.name):
                self.assertEqual(faults(path.read_text(encoding="utf-8")), [])

    def test_no_two_files_draw_from_one_another(self):
        drawn = {path.stem: drawn_from(path) for path in PACKAGE.glob("*.py")}
        while drawn:
            free = [name for name in drawn if not set(drawn[name]) & set(drawn)]
            self.assertTrue(free, drawn)
            drawn = {name: sources for name, sources in drawn.items() if name not in free}

    def test_no_method_is_called_like_a_value_of_an_object(self):
        kept = [kept_in_classes(ast.parse(path.read_text(encoding="ascii"))) for path in PACKAGE.glob("*.py")]
        methods = set().union(*[pair[0] for pair in kept])
        values = set().union(*[pair[1] for pair in kept])
        self.assertEqual(methods & values, set())
        self.assertIn("say", methods)
        self.assertIn("place", values)

    def test_code_outside_the_form_is_seen(self):
        for text in (
            "import os", "from os import path", "from .errors import NoWeb", "from purseweb.errors import *",
            "a = 1 / 2", "a = 0.5", "a = b = 1", "a = {1}", "a = {k: 1 for k in b}", "def f():\n    yield 1",
            "a = sum(k for k in b)", "def f(*a):\n    pass", "def f():\n    'a text'", "class A:\n    a = 1",
            "_a = 1", "list = 1", "def f(id):\n    return 1", "a = map", "a = b.sort()", "a = b is c", "a = b is 1",
            "a = [k for k in b for c in k]", "a = [k for k in b if k if c]", "a = f'{b.c}'", "# type",
            "a = 'dataclasses'", "# caf\u00e9", "a = 1\t", "for a in b:\n    pass", "with a:\n    pass",
            "def f():\n    del a", "def f():\n    assert a",
            "def f():\n    for a in b:\n        pass\n    else:\n        pass",
            "def f():\n    try:\n        pass\n    finally:\n        pass", "def f():\n" + "    f()\n" * 40,
            "# " + "a" * 120, "a = 1\n" * 401, "a = (b := 1)", "a = [*b]", "a = b'c'",
            "from purseweb.webs import loops\ndef f(loops):\n    return 1",
            "from purseweb.webs import loops\ndef f():\n    loops = 1", "def f():\n    pass\ndef f():\n    pass",
            "def f(a):\n    return reversed(a)", "def f(a):\n    b = a.items()", "def f(a):\n    b = range(a)[1]",
            "def f(a):\n    for b in set(a):\n        pass", "def f(a):\n    return set(a)",
            "def f(a):\n    return min(range(a), 3)", "a = f()", "a = [[1]]", "a = {1: []}", "a = {1: {}}",
            "a = [1]\ndef f():\n    a.append(2)", "a = [1]\ndef f():\n    a[0] = 2", "a = {}\ndef f():\n    return a",
            "a = [1]\ndef f():\n    g(a)", "class Any:\n    pass\ndef f():\n    return Any",
            "class Any:\n    pass\ndef f():\n    return [Any]",
            "def f():\n    try:\n        g()\n    except:\n        pass",
            "def f():\n    try:\n        g()\n    except Exception:\n        pass",
            "def f():\n    try:\n        g()\n    except (KeyError, NoText):\n        pass", "def f():\n    raise a",
            "def f():\n    raise", "def f(a):\n    return g(a, b=1)", "def f(a):\n    return a.split(sep=' ')",
            "def f(a: int):\n    return 1", "def f(a) -> int:\n    return 1", "def f(n):\n    return 2 ** n", "a = '%'",
        ):
            with self.subTest(text[:80]):
                self.assertNotEqual(faults('"""A file."""\n' + text), [])


if __name__ == "__main__":
    unittest.main()
