"""The part of Python that the package keeps to, as far as a walk over its files can see."""

import ast
import builtins
import pathlib
import re
import unittest

PACKAGE = pathlib.Path(__file__).resolve().parent.parent / "feastwheel"

STATEMENTS = (
    ast.Assign, ast.AugAssign, ast.If, ast.While, ast.For, ast.Return, ast.Break, ast.Continue, ast.Pass,
    ast.Raise, ast.Try, ast.Expr, ast.FunctionDef, ast.ClassDef, ast.ImportFrom,
)
EXPRESSIONS = (
    ast.Constant, ast.Name, ast.Attribute, ast.Subscript, ast.Slice, ast.Call, ast.BinOp, ast.UnaryOp,
    ast.BoolOp, ast.Compare, ast.IfExp, ast.List, ast.Tuple, ast.Dict, ast.Set, ast.ListComp, ast.JoinedStr,
    ast.FormattedValue, ast.Lambda,
)
OWN_NAMES = set(
    "len range enumerate zip min max sum abs sorted reversed int str bool list tuple dict set frozenset "
    "isinstance ord repr any all divmod Exception ValueError TypeError KeyError IndexError LookupError "
    "ZeroDivisionError ArithmeticError OverflowError RuntimeError NotImplementedError AttributeError "
    "StopIteration print".split()
)
METHODS = set(
    "append clear copy count endswith extend find get index insert isalnum isalpha isdigit islower isspace "
    "isupper items join keys ljust lower lstrip partition pop remove replace reverse rfind rjust rpartition "
    "rsplit rstrip setdefault split splitlines startswith strip update upper values zfill bit_length".split()
)
DOUBLE = {"__init__", "__eq__", "__repr__", "__str__", "__len__"}
WORDS = re.compile(
    r"\b(type|typing|typing_extensions|enum|Enum|IntEnum|StrEnum|Flag|IntFlag|Generic|Protocol|ABC|ABCMeta"
    r"|namedtuple|NamedTuple|TypedDict|TYPE_CHECKING|abstractmethod)\b|dataclass|overload|contextmanager"
)


def bound_names(tree):
    """Every name that a file binds, at its top or within."""
    for node in ast.walk(tree):
        if isinstance(node, ast.Name) and isinstance(node.ctx, ast.Store):
            yield node.id
        elif isinstance(node, ast.arg):
            yield node.arg
        elif isinstance(node, (ast.FunctionDef, ast.ClassDef)):
            yield node.name


def defined_names(tree):
    """The names that a file's top defines, in their order."""
    for node in tree.body:
        if isinstance(node, (ast.FunctionDef, ast.ClassDef)):
            yield node.name
        elif isinstance(node, ast.Assign):
            yield node.targets[0].id


def imported_names(tree):
    """The names that a file draws from others."""
    for node in tree.body:
        if isinstance(node, ast.ImportFrom):
            yield from [alias.name for alias in node.names]


def text_faults(text):
    rows = text.split("\n")
    if len(rows) > 401:
        yield "L10 a file of more than 400 lines"
    for row in rows:
        if len(row) > 120:
            yield "L10 a line of more than 120 signs"
        if re.search("[^ -~]", row):
            yield "L14 a sign that is not one from the blank to ~"
        if WORDS.search(row):
            yield "L17 a word that stands nowhere"


def statement_faults(node):
    if isinstance(node, ast.stmt) and not isinstance(node, STATEMENTS):
        yield "L6 a statement of another kind"
    if isinstance(node, ast.Assign) and len(node.targets) != 1:
        yield "L6 several targets"
    if isinstance(node, (ast.For, ast.While)) and node.orelse:
        yield "L6 an else behind a loop"
    if isinstance(node, ast.Try) and node.finalbody:
        yield "L6 a finally"
    if isinstance(node, ast.ExceptHandler) and not isinstance(node.type, (ast.Name, ast.Tuple)):
        yield "L6 an except without a class"
    if isinstance(node, ast.Expr) and not isinstance(node.value, (ast.Call, ast.Constant)):
        yield "L6 an expression by itself"


def expression_faults(node):
    if isinstance(node, ast.expr) and not isinstance(node, EXPRESSIONS):
        yield "L7 an expression of another kind"
    if isinstance(node, ast.Constant):
        if isinstance(node.value, (float, complex, bytes)):
            yield "L7 a value of another kind"
        if isinstance(node.value, str) and "%" in node.value:
            yield "L27 the sign for remainders within a text"
    if isinstance(node, ast.ListComp):
        if len(node.generators) != 1 or len(node.generators[0].ifs) > 1:
            yield "L7 a comprehension of another form"
    if isinstance(node, ast.FormattedValue) and not isinstance(node.value, ast.Name):
        yield "L7 more than a name within braces"
    if isinstance(node, (ast.Div, ast.MatMult)):
        yield "L7 an operator of another kind"
    if isinstance(node, ast.BinOp) and isinstance(node.op, ast.Pow) and not isinstance(node.right, ast.Constant):
        yield "L27 an exponent that is not written"
    if isinstance(node, ast.Compare):
        sides = [node.left] + node.comparators
        plain = any(isinstance(s, ast.Constant) and isinstance(s.value, (bool, type(None))) for s in sides)
        if any(isinstance(op, (ast.Is, ast.IsNot)) for op in node.ops) and not plain:
            yield "L20 is beside another value"


def is_plain(node):
    """Whether an expression is a written whole number, text, True, False or None."""
    if isinstance(node, ast.UnaryOp) and isinstance(node.op, ast.USub):
        # Of a number with a sign ahead of it Python's tree tells the sign apart.
        return isinstance(node.operand, ast.Constant) and type(node.operand.value) is int
    return isinstance(node, ast.Constant) and isinstance(node.value, (int, str, type(None)))


def default_faults(node):
    """The defaults of a function, a method or a lambda that are no plain values."""
    if isinstance(node, ast.arguments):
        for default in node.defaults + [value for value in node.kw_defaults if value is not None]:
            if not is_plain(default):
                yield f"L4 the default {ast.unparse(default)} is not a plain value"


def def_faults(node):
    if isinstance(node, (ast.FunctionDef, ast.ClassDef)) and node.decorator_list:
        yield "L4 a decorator"
    if isinstance(node, ast.arguments) and (node.vararg or node.kwarg or node.kwonlyargs or node.posonlyargs):
        yield "L4 parameters that are not plain"
    if isinstance(node, ast.FunctionDef) and node.end_lineno - node.lineno > 39:
        yield "L10 a function of more than 40 lines"
    if isinstance(node, ast.ClassDef):
        if len(node.bases) > 1 or node.keywords:
            yield "L5 more than one base"
        for part in node.body:
            plain = isinstance(part, ast.Expr) and isinstance(part.value, ast.Constant)
            if not plain and not isinstance(part, (ast.FunctionDef, ast.Pass)):
                yield "L5 more than methods in a class"


def name_faults(tree, methods):
    bound = list(bound_names(tree))
    for name in bound:
        if name.startswith("_") and name not in DOUBLE:
            yield f"L12 the name {name}"
        if name in dir(builtins) and name not in methods:
            yield f"L15 the name {name} is Python's own"
    for node in ast.walk(tree):
        if isinstance(node, ast.Name) and node.id not in bound:
            if node.id in dir(builtins) and node.id not in OWN_NAMES:
                yield f"L8 the name {node.id}"
        if isinstance(node, ast.Call) and isinstance(node.func, ast.Attribute):
            if node.func.attr not in METHODS | methods | DOUBLE:
                yield f"L25 the method {node.func.attr}"


def inner_names(tree):
    """The names of parameters and locals, and of defs within defs."""
    for outer in ast.walk(tree):
        if isinstance(outer, (ast.FunctionDef, ast.Lambda)):
            for node in ast.walk(outer):
                if isinstance(node, ast.arg):
                    yield node.arg
                elif isinstance(node, ast.Name) and isinstance(node.ctx, ast.Store):
                    yield node.id
                elif isinstance(node, ast.FunctionDef) and node is not outer:
                    yield node.name


def shadow_faults(tree):
    """Parameters and locals that are called like a class or an import of their file."""
    taken = set(imported_names(tree)) | {node.name for node in tree.body if isinstance(node, ast.ClassDef)}
    for name in inner_names(tree):
        if name in taken:
            yield f"L15 {name} is a class or an import of the file"


def values_of(trees):
    """The names of the values that the methods of the package's classes keep."""
    return {node.attr for tree in trees for node in ast.walk(tree)
            if isinstance(node, ast.Attribute) and isinstance(node.ctx, ast.Store)}


def is_called(node, names):
    return isinstance(node, ast.Call) and isinstance(node.func, ast.Name) and node.func.id in names


def walked_on_the_spot(tree):
    """The expressions that stand where what is walked at once may stand."""
    for node in ast.walk(tree):
        if isinstance(node, (ast.For, ast.comprehension)):
            yield node.iter
        elif is_called(node, ("list", "tuple", "dict", "sorted", "sum", "any", "all", "enumerate")):
            yield from node.args[:1]
        elif is_called(node, ("zip",)):
            yield from node.args
        elif is_called(node, ("min", "max")) and len(node.args) == 1:
            yield node.args[0]
        elif isinstance(node, ast.Call) and isinstance(node.func, ast.Attribute) and node.func.attr == "join":
            yield from node.args


def walk_faults(tree):
    spots = list(walked_on_the_spot(tree))
    for node in ast.walk(tree):
        lazy = is_called(node, ("zip", "enumerate", "reversed", "range"))
        if isinstance(node, ast.Call) and isinstance(node.func, ast.Attribute):
            lazy = node.func.attr in ("items", "keys", "values")
        if lazy and node not in spots:
            yield "L23 what is walked at once is kept"
        if is_called(node, ("set", "frozenset")) or isinstance(node, ast.Set):
            yield "L24 a set: look whether it stands where one may"


def keyword_faults(tree):
    allowed = {"sorted": ("key", "reverse"), "min": ("key", "default"), "max": ("key", "default"),
               "sum": ("start",), "enumerate": ("start",), "zip": ("strict",)}
    for node in ast.walk(tree):
        if isinstance(node, ast.Call) and isinstance(node.func, ast.Name) and node.func.id in OWN_NAMES:
            for keyword in node.keywords:
                if keyword.arg not in allowed.get(node.func.id, ()):
                    yield f"L22 the keyword {keyword.arg}"


def top_faults(tree, files):
    for node in tree.body:
        plain = isinstance(node, ast.Expr) and isinstance(node.value, ast.Constant)
        if not plain and not isinstance(node, (ast.ImportFrom, ast.FunctionDef, ast.ClassDef, ast.Assign)):
            yield "L3 something is done at a file's top"
    for node in ast.walk(tree):
        if isinstance(node, ast.ImportFrom):
            if node not in tree.body or node.level or node.module not in files:
                yield f"L2 an import from {node.module}"
            else:
                defined = list(defined_names(files[node.module]))
                for alias in node.names:
                    if alias.asname or alias.name not in defined:
                        yield f"L16 {alias.name} is not from {node.module}"
    names = list(defined_names(tree)) + list(imported_names(tree))
    if len(names) != len(set(names)):
        yield "L15 a name that is bound twice at a file's top"


def methods_of(trees):
    return {part.name for tree in trees for node in tree.body if isinstance(node, ast.ClassDef)
            for part in node.body if isinstance(part, ast.FunctionDef)}


def faults(text, files=None):
    """Every fault of one file's text, files being the trees of the package by module names."""
    files = files or {}
    tree = ast.parse(text)
    methods = methods_of(list(files.values()) + [tree])
    found = list(text_faults(text)) + list(name_faults(tree, methods)) + list(top_faults(tree, files))
    found.extend(list(shadow_faults(tree)) + list(walk_faults(tree)) + list(keyword_faults(tree)))
    for node in ast.walk(tree):
        found.extend(statement_faults(node))
        found.extend(expression_faults(node))
        found.extend(def_faults(node))
        found.extend(default_faults(node))
    return found


def draws_in_a_ring(files):
    """Whether some file draws from itself in however many steps."""
    drawn = {name: {node.module for node in ast.walk(tree) if isinstance(node, ast.ImportFrom)}
             for name, tree in files.items()}
    left = dict(drawn)
    while left:
        free = [name for name in left if not left[name] & set(left)]
        if not free:
            return True
        for name in free:
            del left[name]
    return False


class Package(unittest.TestCase):
    def setUp(self):
        self.paths = sorted(path for path in PACKAGE.rglob("*") if "__pycache__" not in path.parts)
        self.files = {f"feastwheel.{path.stem}": ast.parse(path.read_text()) for path in self.paths}

    def test_the_files_have_plain_names(self):
        self.assertIn("__init__.py", [path.name for path in self.paths])
        for path in self.paths:
            with self.subTest(path.name):
                self.assertRegex(path.name, r"\A([a-z][a-z0-9_]*|__init__|__main__)\.py\Z")
                self.assertNotIn(path.stem, dir(builtins))

    def test_each_file_keeps_to_the_rules(self):
        for path in self.paths:
            with self.subTest(path.name):
                self.assertEqual(faults(path.read_text(), self.files), [])

    def test_no_name_is_a_method_and_a_value(self):
        trees = list(self.files.values())
        self.assertEqual(methods_of(trees) & values_of(trees), set())

    def test_no_two_files_draw_from_one_another(self):
        self.assertFalse(draws_in_a_ring(self.files))


class Samples(unittest.TestCase):
    """The walk sees what it is there to see."""

    def test_faults_are_seen(self):
        samples = {
            "L2": "from os import path", "L4": "def f(*a):\n    return a", "L5": "class A:\n    x = 1",
            "L6": "def f(a):\n    assert a", "L7": "def f(a):\n    return a / 2", "L8": "def f(a):\n    return hash(a)",
            "L12": "def f(a):\n    _b = a", "L14": "# \u00e4", "L15": "def f(id):\n    return 1",
            "L17": "# a type", "L20": "def f(a, b):\n    return a is b",
            "L25": "def f(a):\n    return a.encode()", "L27": "def f(n):\n    return 2 ** n",
            "L3": "for a in [1]:\n    pass", "L10": "# " + "a" * 120,
            "L22": "def f(a):\n    return int(a, base=2)", "L23": "def f(a):\n    b = range(a)\n    return b",
            "L24": "def f(a):\n    return set(a)",
        }
        for rule, text in samples.items():
            with self.subTest(rule):
                self.assertIn(rule, [fault.split()[0] for fault in faults(text)])

    def test_a_default_that_is_not_a_plain_value_is_seen(self):
        forms = (
            "def f(a, b={0}):\n    return b", "def f(a):\n    def g(b={0}):\n        return b\n    return g",
            "class A:\n    def f(self, b={0}):\n        return b",
            "class A:\n    def __init__(self, a=1, b={0}, c=None):\n        self.b = b",
            "def f(a):\n    return lambda b={0}: b",
        )
        for form in forms:
            for default in ("()", "(1, 0)", "('none',)", "[]", "{}", "{'a': 1}", "1.5", "b'a'", "...", "OTHER", "A.b",
                            "-OTHER", "-True", "~1", "1 + 1", "f'{a}'", "len('a')", "[1][0]", "1 if a else 2",
                            "lambda: 1"):
                with self.subTest(form=form, default=default):
                    found = faults(form.replace("{0}", default))
                    self.assertTrue([fault for fault in found if fault.startswith("L4 the default")])
            for default in ("0", "1", "-1", "''", "'none'", "True", "False", "None"):
                with self.subTest(form=form, default=default):
                    self.assertEqual(faults(form.replace("{0}", default)), [])

    def test_a_local_like_an_import_or_a_class_is_seen(self):
        for text in ("from p.b import x\ndef f(x):\n    return x", "class A:\n    pass\ndef f(a):\n    A = a"):
            with self.subTest(text):
                self.assertIn("L15", [fault.split()[0] for fault in shadow_faults(ast.parse(text))])

    def test_a_method_that_is_a_value_is_seen(self):
        trees = [ast.parse("class A:\n    def on(self):\n        return 1"),
                 ast.parse("class B:\n    def __init__(self):\n        self.on = 1")]
        self.assertEqual(methods_of(trees) & values_of(trees), {"on"})

    def test_a_ring_is_seen(self):
        ring = {"p.a": ast.parse("from p.b import x"), "p.b": ast.parse("from p.a import y")}
        self.assertTrue(draws_in_a_ring(ring))
        self.assertFalse(draws_in_a_ring({"p.a": ast.parse("from p.b import x"), "p.b": ast.parse("x = 1")}))
