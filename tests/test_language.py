"""The package's files keep to the small part of Python that they are written in.

Each fault is told with the number of its rule. Not every rule can be seen from
outside; those that can't are left to the reader.
"""

import ast
import builtins
import os
import re
import unittest

PACKAGE = os.path.join(os.path.dirname(os.path.dirname(os.path.abspath(__file__))), "hatsight")

OWN_NAMES = set("""len range enumerate zip min max sum abs sorted reversed int str bool list tuple dict set frozenset
isinstance ord repr any all divmod Exception ValueError TypeError KeyError IndexError LookupError ZeroDivisionError
ArithmeticError OverflowError RuntimeError NotImplementedError AttributeError StopIteration""".split())

OWN_METHODS = set("""append clear copy count endswith extend find get index insert isalnum isalpha isdigit islower
isspace isupper items join keys ljust lower lstrip partition pop remove replace reverse rfind rjust rpartition rsplit
rstrip setdefault split splitlines startswith strip update upper values zfill bit_length""".split())

DUNDERS = {"__init__", "__eq__", "__repr__", "__str__", "__len__"}

STATEMENTS = (ast.Assign, ast.AugAssign, ast.AnnAssign, ast.If, ast.While, ast.For, ast.Return, ast.Break,
              ast.Continue, ast.Pass, ast.Raise, ast.Try, ast.Expr, ast.FunctionDef, ast.ClassDef, ast.ImportFrom,
              ast.Import)

EXPRESSIONS = (ast.Constant, ast.Name, ast.List, ast.Tuple, ast.Dict, ast.Set, ast.BinOp, ast.UnaryOp, ast.BoolOp,
               ast.Compare, ast.IfExp, ast.Call, ast.Attribute, ast.Subscript, ast.Slice, ast.ListComp,
               ast.JoinedStr, ast.FormattedValue, ast.Lambda)

WORDS = re.compile(r"\b(type|typing|typing_extensions|enum|Enum|IntEnum|StrEnum|Flag|IntFlag|Generic|Protocol|ABC|"
                   r"ABCMeta|namedtuple|NamedTuple|TypedDict|TYPE_CHECKING|abstractmethod)\b|"
                   r"dataclass|overload|contextmanager")

# Names that no value of an object has.
NO_VALUES = set("""items keys values pop update append clear extend insert remove reverse setdefault sort args encode
format""".split())

WALKED = ("zip", "enumerate", "reversed", "range")
WALKERS = ("list", "tuple", "dict", "sorted", "sum", "any", "all", "enumerate", "zip", "min", "max", "join")

NOWHERE = set("""register mro elements open input version_info with_traceback add_note format format_map""".split())


def is_docstring(node):
    return isinstance(node, ast.Expr) and isinstance(node.value, ast.Constant) and isinstance(node.value.value, str)


def text_faults(text):
    rows = text.split("\n")
    if len(rows) > 401:
        yield "L10 a file of more than 400 lines"
    for number, row in enumerate(rows, start=1):
        if len(row) > 120:
            yield f"L10 line {number} is too long"
        if not all(" " <= sign <= "~" for sign in row):
            yield f"L14 line {number} has another sign"
        if WORDS.search(row):
            yield f"L17 line {number} has a word that stands nowhere"


def top_faults(tree, is_main):
    bound = []
    for place, node in enumerate(tree.body):
        if isinstance(node, (ast.FunctionDef, ast.ClassDef)):
            bound.append(node.name)
        elif isinstance(node, ast.Assign):
            bound.extend(target.id for target in node.targets if isinstance(target, ast.Name))
        elif isinstance(node, ast.ImportFrom):
            bound.extend(alias.asname or alias.name for alias in node.names)
        elif not (is_docstring(node) and place == 0) and not (is_main and isinstance(node, (ast.If, ast.Import))):
            yield f"L3 line {node.lineno}"
    if len(set(bound)) < len(bound):
        yield "L15 a name is bound twice at the top"


def import_faults(tree, is_main):
    for node in ast.walk(tree):
        if isinstance(node, ast.Import):
            if not is_main or [alias.name for alias in node.names] != ["sys"]:
                yield f"L16 line {node.lineno}"
        elif isinstance(node, ast.ImportFrom):
            if node not in tree.body or node.level or any(alias.name == "*" for alias in node.names):
                yield f"L2 line {node.lineno}"
            elif node.module != "__future__" and not node.module.startswith("hatsight."):
                yield f"L2 line {node.lineno}"


def function_faults(node):
    told = node.args
    if told.vararg or told.kwarg or told.kwonlyargs or told.posonlyargs or node.decorator_list:
        yield f"L4 line {node.lineno}"
    if node.end_lineno - node.lineno + 1 > 40:
        yield f"L10 line {node.lineno}: a function of more than 40 lines"
    if node.name.startswith("_") and node.name not in DUNDERS:
        yield f"L12 line {node.lineno}"
    for given in told.args:
        if hasattr(builtins, given.arg) or given.arg.startswith("_"):
            yield f"L15 line {node.lineno}: {given.arg}"


def class_faults(node):
    if len(node.bases) > 1 or node.keywords or node.decorator_list:
        yield f"L5 line {node.lineno}"
    for part in node.body:
        if not isinstance(part, (ast.FunctionDef, ast.Pass)) and not is_docstring(part):
            yield f"L5 line {part.lineno}"


def statement_faults(node):
    if not isinstance(node, STATEMENTS):
        yield f"L6 line {node.lineno}"
    elif isinstance(node, ast.Assign) and len(node.targets) != 1:
        yield f"L6 line {node.lineno}"
    elif isinstance(node, (ast.For, ast.While)) and node.orelse:
        yield f"L6 line {node.lineno}"
    elif isinstance(node, ast.Try) and (node.finalbody or any(handler.type is None for handler in node.handlers)):
        yield f"L6 line {node.lineno}"
    elif isinstance(node, ast.Expr) and not isinstance(node.value, ast.Call) and not is_docstring(node):
        yield f"L6 line {node.lineno}"
    elif isinstance(node, ast.FunctionDef):
        yield from function_faults(node)
    elif isinstance(node, ast.ClassDef):
        yield from class_faults(node)


def operator_faults(node):
    if isinstance(node.op, (ast.Div, ast.MatMult)):
        yield f"L7 line {node.lineno}"
    if isinstance(node.op, ast.Pow):
        power = node.right if isinstance(node, ast.BinOp) else node.value
        if not isinstance(power, ast.Constant) or not 0 <= power.value <= 64:
            yield f"L27 line {node.lineno}"


def constant_faults(node):
    if isinstance(node.value, (float, complex, bytes)) or node.value is Ellipsis:
        yield f"L7 line {node.lineno}"
    if isinstance(node.value, str) and "%" in node.value:
        yield f"L27 line {node.lineno}"


def name_faults(node, is_main):
    known = node.id in OWN_NAMES or (is_main and node.id in ("print", "__name__"))
    if hasattr(builtins, node.id) and not known:
        yield f"L8 line {node.lineno}: {node.id}"
    if isinstance(node.ctx, ast.Store) and hasattr(builtins, node.id):
        yield f"L15 line {node.lineno}: {node.id}"
    if node.id.startswith("_") and not known and node.id not in ("__all__", "__version__"):
        yield f"L12 line {node.lineno}: {node.id}"
    if node.id in NOWHERE:
        yield f"L17 line {node.lineno}: {node.id}"


def compare_faults(node):
    values = [node.left] + node.comparators
    for place, way in enumerate(node.ops):
        beside = [value for value in values[place:place + 2] if isinstance(value, ast.Constant)]
        if isinstance(way, (ast.Is, ast.IsNot)) and not any(value.value in (None, True, False) for value in beside):
            yield f"L20 line {node.lineno}"


def expression_faults(node, is_main, own_methods):
    if not isinstance(node, EXPRESSIONS):
        yield f"L7 line {node.lineno}"
    elif isinstance(node, ast.BinOp):
        yield from operator_faults(node)
    elif isinstance(node, ast.Constant):
        yield from constant_faults(node)
    elif isinstance(node, ast.Name):
        yield from name_faults(node, is_main)
    elif isinstance(node, ast.Compare):
        yield from compare_faults(node)
    elif isinstance(node, ast.ListComp):
        if len(node.generators) != 1 or len(node.generators[0].ifs) > 1:
            yield f"L7 line {node.lineno}"
    elif isinstance(node, ast.FormattedValue):
        if not isinstance(node.value, ast.Name) or node.format_spec or node.conversion not in (-1, ord("r")):
            yield f"L7 line {node.lineno}"
    elif isinstance(node, ast.Attribute) and node.attr in NOWHERE:
        yield f"L17 line {node.lineno}: {node.attr}"
    elif isinstance(node, ast.Call) and isinstance(node.func, ast.Attribute) and not is_main:
        if node.func.attr not in OWN_METHODS and node.func.attr not in own_methods | DUNDERS:
            yield f"L25 line {node.lineno}: {node.func.attr}"


def called(node):
    if isinstance(node, ast.Call):
        return node.func.id if isinstance(node.func, ast.Name) else getattr(node.func, "attr", None)
    return None


def parents_of(tree):
    return {child: node for node in ast.walk(tree) for child in ast.iter_child_nodes(node)}


# What is walked stands behind the `in` of a walk or straight within one of Python's own walkers.
def walk_faults(tree):
    parents = parents_of(tree)
    for node in ast.walk(tree):
        above = parents.get(node)
        if called(node) in WALKED and isinstance(node.func, ast.Name):
            behind_in = isinstance(above, (ast.For, ast.comprehension)) and above.iter is node
            if not behind_in and not (called(above) in WALKERS and node in above.args):
                yield f"L23 line {node.lineno}"
        if called(node) in ("set", "frozenset") or isinstance(node, ast.Set):
            if called(above) not in ("len", "sorted") and not isinstance(above, (ast.Compare, ast.BinOp)):
                yield f"L24 line {node.lineno}"


def bound_within(node):
    given = [told.arg for told in node.args.args]
    return given + [part.id for part in ast.walk(node) if isinstance(part, ast.Name) and isinstance(part.ctx, ast.Store)]


def scope_faults(tree):
    drawn = {alias.name for node in tree.body if isinstance(node, ast.ImportFrom) for alias in node.names}
    classes = {node.name for node in tree.body if isinstance(node, ast.ClassDef)}
    for node in ast.walk(tree):
        if isinstance(node, (ast.FunctionDef, ast.Lambda)):
            for name in bound_within(node):
                if name in drawn | classes:
                    yield f"L15 line {node.lineno}: {name}"
        if isinstance(node, ast.FunctionDef) and ast.get_docstring(node) is not None:
            yield f"L6 line {node.lineno}: a text by itself"
        if isinstance(node, (ast.arg, ast.FunctionDef)) and (getattr(node, "annotation", None) or getattr(node, "returns", None)):
            yield f"L21 line {node.lineno}"


def values_of(trees):
    return {node.attr for tree in trees for node in ast.walk(tree)
            if isinstance(node, ast.Attribute) and isinstance(node.ctx, ast.Store)}


def methods_of(trees):
    return {part.name for tree in trees for node in ast.walk(tree) if isinstance(node, ast.ClassDef)
            for part in node.body if isinstance(part, ast.FunctionDef)}


def faults(text, is_main=False, own_methods=frozenset()):
    tree = ast.parse(text)
    told = list(text_faults(text)) + list(top_faults(tree, is_main)) + list(import_faults(tree, is_main))
    told = told + list(walk_faults(tree)) + list(scope_faults(tree))
    for node in ast.walk(tree):
        if isinstance(node, ast.stmt):
            told.extend(statement_faults(node))
        elif isinstance(node, ast.expr):
            told.extend(expression_faults(node, is_main, own_methods))
        if isinstance(node, ast.AugAssign):
            told.extend(operator_faults(node))
    return told


def read_package():
    texts = {}
    for name in sorted(os.listdir(PACKAGE)):
        if name.endswith(".py"):
            with open(os.path.join(PACKAGE, name), encoding="utf-8", newline="") as file:
                texts[name] = file.read()
    return texts


def drawn_from(tree):
    return [node.module.split(".")[1] + ".py" for node in tree.body
            if isinstance(node, ast.ImportFrom) and node.module.startswith("hatsight.")]


class Language(unittest.TestCase):
    def test_names_of_files(self):
        for name in os.listdir(PACKAGE):
            if name != "__pycache__":
                self.assertRegex(name, r"^[a-z0-9_]+\.py$")

    def test_every_file(self):
        texts = read_package()
        self.assertIn("__init__.py", texts)
        own_methods = methods_of([ast.parse(text) for text in texts.values()])
        for name, text in texts.items():
            with self.subTest(name=name):
                self.assertEqual(faults(text, name == "__main__.py", own_methods), [])

    def test_methods_and_values_of_classes(self):
        trees = [ast.parse(text) for text in read_package().values()]
        self.assertIn("put_all", methods_of(trees))
        self.assertIn("line", values_of(trees))
        self.assertEqual(methods_of(trees) & values_of(trees), set())
        self.assertEqual(values_of(trees) & NO_VALUES, set())

    def test_each_name_is_drawn_from_the_file_that_has_it(self):
        texts = read_package()
        for name, text in texts.items():
            for node in ast.parse(text).body:
                if isinstance(node, ast.ImportFrom):
                    there = ast.parse(texts[node.module.split(".")[1] + ".py"]).body
                    defined = {part.name for part in there if isinstance(part, (ast.FunctionDef, ast.ClassDef))}
                    for alias in node.names:
                        self.assertIn(alias.name, defined, name)
                        self.assertIsNone(alias.asname)

    def test_no_two_files_draw_from_one_another(self):
        drawn = {name: drawn_from(ast.parse(text)) for name, text in read_package().items()}
        self.assertEqual(drawn["__init__.py"], [])
        while drawn:
            ready = [name for name, others in drawn.items() if not any(other in drawn for other in others)]
            self.assertNotEqual(ready, [], drawn)
            for name in ready:
                del drawn[name]


class Checker(unittest.TestCase):
    def test_code_outside_the_rules_is_found(self):
        for rule, text in (("L2", "from math import gcd"), ("L16", "import math"), ("L3", "for i in (1, 2):\n    pass"),
                           ("L4", "def f(*xs):\n    return xs"), ("L5", "class A:\n    x = 1"),
                           ("L6", "def f(x):\n    a = b = x\n    return a"), ("L6", "def f(x):\n    assert x"),
                           ("L7", "def f(x):\n    return x / 2"), ("L7", "A = 1.5"),
                           ("L7", "def f(xs):\n    return sum(x for x in xs)"), ("L8", "def f(x):\n    return pow(x, 2)"),
                           ("L10", "A = \"" + "a" * 120 + "\""), ("L12", "def f(x):\n    _y = x\n    return _y"),
                           ("L14", "A = \"\u00e9\""), ("L15", "def f(id):\n    return 1"), ("L15", "A = 1\nA = 2"),
                           ("L17", "A = \"type\""), ("L20", "def f(x, y):\n    return x is y"),
                           ("L25", "def f(x):\n    return x.title()"), ("L27", "def f(n):\n    return 2 ** n"),
                           ("L27", "A = \"50%\""), ("L23", "def f(n):\n    xs = range(n)\n    return xs"),
                           ("L24", "def f(xs):\n    ys = set(xs)\n    return ys"),
                           ("L15", "from hatsight.webs import places\n\n\ndef f(places):\n    return places"),
                           ("L6", "def f():\n    \"\"\"A.\"\"\"\n    return 1"), ("L21", "def f(x: int):\n    return x")):
            with self.subTest(text=text):
                self.assertTrue(any(fault.startswith(rule + " ") for fault in faults(text)), faults(text))

    def test_plain_code_is_let_through(self):
        text = "\"\"\"A.\"\"\"\n\nA = (1, 2)\n\n\ndef f(x, y=0):\n    return [k ** 2 for k in x if k != y]\n"
        self.assertEqual(faults(text), [])


if __name__ == "__main__":
    unittest.main()
