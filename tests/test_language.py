"""The package keeps to the small part of Python it may use: what can be seen in the text alone is asked here."""

import ast
import builtins
import pathlib
import re
import unittest

PACKAGE = pathlib.Path(__file__).resolve().parent.parent / "whyrows"

PYTHON_NAMES = set(dir(builtins))
OWN_NAMES = set("""len range enumerate zip min max sum abs sorted reversed int str bool list tuple dict set frozenset
    isinstance ord repr any all divmod Exception ValueError TypeError KeyError IndexError LookupError ZeroDivisionError
    ArithmeticError OverflowError RuntimeError NotImplementedError AttributeError StopIteration""".split())
OWN_METHODS = set("""append clear copy count endswith extend find get index insert isalnum isalpha isdigit islower
    isspace isupper items join keys ljust lower lstrip partition pop remove replace reverse rfind rjust rpartition
    rsplit rstrip setdefault split splitlines startswith strip update upper values zfill bit_length""".split())
DOUBLE_METHODS = {"__init__", "__eq__", "__repr__", "__str__", "__len__"}
WORDS_NOWHERE = re.compile(
    r"\b(type|typing|typing_extensions|enum|Enum|IntEnum|StrEnum|Flag|IntFlag|Generic|Protocol|ABC|ABCMeta|namedtuple"
    r"|NamedTuple|TypedDict|TYPE_CHECKING|abstractmethod)\b|dataclass|overload|contextmanager")
NAMES_NOWHERE = set("""register mro elements open input version_info with_traceback add_note attrgetter breakpoint
    builtins compile copyright credits delattr dir eval exec exit gc getattr globals hasattr help id importlib license
    locals methodcaller os quit setattr super vars sys chr print format format_map""".split())
KEYWORDS = {"sorted": {"key", "reverse"}, "min": {"key", "default"}, "max": {"key", "default"}, "sum": {"start"},
            "enumerate": {"start"}, "zip": {"strict"}}
CHANGING_METHODS = {"append", "clear", "extend", "insert", "pop", "remove", "reverse", "setdefault", "update"}
WALKED_AT_ONCE = {"zip", "enumerate", "reversed", "range"}
WALKED_METHODS = {"items", "keys", "values"}
WALKERS = {"list", "tuple", "dict", "sorted", "sum", "any", "all", "enumerate", "zip", "min", "max"}
NAMES_OF_VALUES = {name for kind in (str, int, list, dict, set, bytes) for name in dir(kind)}
VALUES_LET_BY = set("count index title find get join lower upper split strip copy add".split())
NODES = (
    ast.Module, ast.ImportFrom, ast.alias, ast.FunctionDef, ast.ClassDef, ast.arguments, ast.arg, ast.Lambda,
    ast.Assign, ast.AugAssign, ast.If, ast.While, ast.For, ast.Return, ast.Break, ast.Continue, ast.Pass, ast.Raise,
    ast.Try, ast.ExceptHandler, ast.Expr, ast.Constant, ast.List, ast.Tuple, ast.Dict, ast.Set, ast.BinOp, ast.UnaryOp,
    ast.BoolOp, ast.Compare, ast.IfExp, ast.Call, ast.keyword, ast.Attribute, ast.Subscript, ast.Slice, ast.ListComp,
    ast.comprehension, ast.JoinedStr, ast.FormattedValue, ast.Name, ast.expr_context, ast.operator, ast.unaryop,
    ast.boolop, ast.cmpop,
)


def text_faults(text):
    lines = text.split("\n")
    if len(lines) > 401:
        yield 401, "L10: a file of more than 400 lines"
    for number, line in enumerate(lines, start=1):
        if len(line) > 120:
            yield number, "L10: a line of more than 120 characters"
        if not all(" " <= sign <= "~" for sign in line):
            yield number, "L14: a sign that is not plain"
        if WORDS_NOWHERE.search(line):
            yield number, "L17: a word that stands nowhere"


def name_fault(name):
    if name.startswith("_") and name not in DOUBLE_METHODS:
        return "L12: a name that begins with an underscore"
    if name in NAMES_NOWHERE:
        return "L17: a name that is not used"
    return None


def binding_fault(name):
    if name in PYTHON_NAMES:
        return "L15: a name of Python's own given another meaning"
    return name_fault(name)


def function_fault(node):
    arguments = node.args
    if arguments.vararg or arguments.kwarg or arguments.kwonlyargs or arguments.posonlyargs:
        return "L4: a parameter that is not plain"
    if isinstance(node, ast.FunctionDef) and node.decorator_list:
        return "L4: a decorator"
    if node.end_lineno - node.lineno >= 40:
        return "L10: a function of more than 40 lines"
    return None


def class_fault(node):
    if node.decorator_list or node.keywords or len(node.bases) > 1:
        return "L5: a class that is not plain"
    if not all(isinstance(part, (ast.FunctionDef, ast.Pass)) for part in node.body):
        return "L5: a class body with more than methods"
    return None


def constant_fault(value):
    if isinstance(value, (float, complex, bytes)) or value is Ellipsis:
        return "L7: a value that is not used"
    if isinstance(value, str) and "%" in value:
        return "L27: a sign within a text"
    return None


def compare_fault(node):
    for sign, side in zip(node.ops, node.comparators):
        if isinstance(sign, (ast.Is, ast.IsNot)) and not (
                isinstance(side, ast.Constant) and (side.value is None or isinstance(side.value, bool))):
            return "L20: is beside something else"
    return None


def operation_fault(sign, right):
    if isinstance(sign, (ast.Div, ast.MatMult)):
        return "L7: an operator that is not used"
    if isinstance(sign, ast.Pow) and not isinstance(right, ast.Constant):
        return "L27: an exponent that is not written"
    return None


def node_fault(node):
    if not isinstance(node, NODES):
        return "L6, L7: " + node.__class__.__name__
    if isinstance(node, (ast.FunctionDef, ast.Lambda)):
        return function_fault(node) or (isinstance(node, ast.FunctionDef) and name_fault(node.name)) or None
    if isinstance(node, ast.ClassDef):
        return class_fault(node) or binding_fault(node.name)
    if isinstance(node, ast.arg):
        return binding_fault(node.arg)
    if isinstance(node, ast.Name):
        if isinstance(node.ctx, ast.Store):
            return binding_fault(node.id)
        if node.id in PYTHON_NAMES and node.id not in OWN_NAMES:
            return "L8: a name of Python's own that is not used"
        return name_fault(node.id)
    if isinstance(node, ast.Attribute):
        return None if node.attr in DOUBLE_METHODS else name_fault(node.attr)
    if isinstance(node, ast.Constant):
        return constant_fault(node.value)
    if isinstance(node, ast.Compare):
        return compare_fault(node)
    if isinstance(node, ast.BinOp):
        return operation_fault(node.op, node.right)
    if isinstance(node, ast.AugAssign):
        return operation_fault(node.op, node.value)
    if isinstance(node, ast.ListComp) and (len(node.generators) > 1 or len(node.generators[0].ifs) > 1):
        return "L7: a comprehension with more than one for and one if"
    if isinstance(node, ast.Assign) and len(node.targets) > 1:
        return "L6: more than one target"
    if isinstance(node, (ast.For, ast.While)) and node.orelse:
        return "L6: else behind a loop"
    if isinstance(node, ast.Try) and node.finalbody:
        return "L6: finally"
    if isinstance(node, ast.Try):
        return "L19: a try (the package has none; what may stand in one is not asked here)"
    if isinstance(node, ast.ExceptHandler) and node.type is None:
        return "L6: an except of no named class"
    if isinstance(node, ast.Expr) and not isinstance(node.value, (ast.Call, ast.Constant)):
        return "L6: an expression by itself"
    if isinstance(node, ast.FormattedValue) and (node.format_spec or not isinstance(node.value, ast.Name)):
        return "L7: more than a plain name within an f-string's braces"
    return None


def is_docstring(place, node):
    return place == 0 and isinstance(node, ast.Expr) and isinstance(node.value, ast.Constant)


def top_faults(tree):
    for place, node in enumerate(tree.body):
        if not is_docstring(place, node) and not isinstance(
                node, (ast.ImportFrom, ast.FunctionDef, ast.ClassDef, ast.Assign)):
            yield node.lineno, "L3: what doesn't stand at a file's top"
    bound = [name for node in tree.body for name in bound_at_top(node)]
    for name in bound:
        if bound.count(name) > 1:
            yield 1, "L15: a name bound twice: " + name


def bound_at_top(node):
    if isinstance(node, (ast.FunctionDef, ast.ClassDef)):
        return [node.name]
    if isinstance(node, ast.ImportFrom):
        return [alias.asname or alias.name for alias in node.names]
    if isinstance(node, ast.Assign):
        return [target.id for target in node.targets if isinstance(target, ast.Name)]
    return []


def import_faults(tree, defined_in):
    for node in ast.walk(tree):
        if isinstance(node, ast.ImportFrom):
            names = defined_in.get(node.module)
            if node.level or names is None or node not in tree.body:
                yield node.lineno, "L2: not one of the package's own files, by its full name, at the top"
            elif not all(alias.name in names for alias in node.names):
                yield node.lineno, "L16: not the file that defines the name"


def method_faults(tree, own):
    for node in ast.walk(tree):
        if isinstance(node, ast.Call) and isinstance(node.func, ast.Attribute):
            if node.func.attr not in OWN_METHODS | DOUBLE_METHODS | own:
                yield node.lineno, "L25: a method that is not used: " + node.func.attr


def methods_of(trees):
    return {part.name for tree in trees for node in ast.walk(tree) if isinstance(node, ast.ClassDef)
            for part in node.body if isinstance(part, ast.FunctionDef)}


def values_of(trees):
    return {node.attr for tree in trees for node in ast.walk(tree)
            if isinstance(node, ast.Attribute) and isinstance(node.ctx, ast.Store)}


def called(node):
    """The name of a function that is called by its name alone."""
    return node.func.id if isinstance(node, ast.Call) and isinstance(node.func, ast.Name) else None


def is_set(node):
    return isinstance(node, ast.Set) or called(node) in ("set", "frozenset")


def is_walked_at_once(node):
    if isinstance(node, ast.Call) and isinstance(node.func, ast.Attribute):
        return node.func.attr in WALKED_METHODS
    return called(node) in WALKED_AT_ONCE


def stands_by_a_set(node, around):
    if isinstance(node, ast.BinOp):
        return stands_by_a_set(around[node], around)
    if isinstance(node, ast.Compare):
        return all(isinstance(sign, (ast.In, ast.NotIn, ast.Eq, ast.NotEq)) for sign in node.ops)
    return called(node) in ("sorted", "len") and not node.keywords


def stands_by_a_walk(node, walked):
    if isinstance(node, (ast.For, ast.comprehension)):
        return node.iter is walked
    if isinstance(node, ast.Call) and isinstance(node.func, ast.Attribute):
        return node.func.attr == "join"
    if called(node) in ("min", "max"):
        return len(node.args) == 1
    return called(node) in WALKERS and (node.args[0] is walked or called(node) == "zip")


def place_faults(tree):
    around = {part: node for node in ast.walk(tree) for part in ast.iter_child_nodes(node)}
    for node in ast.walk(tree):
        if is_set(node) and not stands_by_a_set(around[node], around):
            yield node.lineno, "L24: a set that is kept or walked"
        if is_walked_at_once(node) and not stands_by_a_walk(around[node], node):
            yield node.lineno, "L23: not walked on the spot"
        if called(node) in PYTHON_NAMES:
            if not {part.arg for part in node.keywords} <= KEYWORDS.get(called(node), set()):
                yield node.lineno, "L22: a keyword that is not used"


def shadow_faults(tree):
    taken = {name for node in tree.body if isinstance(node, (ast.ClassDef, ast.ImportFrom))
             for name in bound_at_top(node)}
    for node in ast.walk(tree):
        if isinstance(node, ast.arg) and node.arg in taken:
            yield node.lineno, "L15: a parameter called like a class or an import"
        if isinstance(node, ast.Name) and isinstance(node.ctx, ast.Store) and node.id in taken:
            yield node.lineno, "L15: a local called like a class or an import"


def annotation_faults(tree):
    for node in ast.walk(tree):
        if isinstance(node, ast.arg) and node.annotation or isinstance(node, ast.FunctionDef) and node.returns:
            yield node.lineno, "L21: an annotation"


def is_key(node, around):
    return isinstance(around[node], ast.keyword) and around[node].arg == "key"


def handed_on_faults(tree, own):
    """What may only be called, or stand at few other places: Python's own functions, methods, and classes."""
    around = {part: node for node in ast.walk(tree) for part in ast.iter_child_nodes(node)}
    classes = {node.name for node in ast.walk(tree) if isinstance(node, ast.ClassDef)} | {
        alias.name for node in tree.body if isinstance(node, ast.ImportFrom)
        for alias in node.names if alias.name[0].isupper() and not alias.name.isupper()}
    for node in ast.walk(tree):
        is_called = isinstance(around.get(node), ast.Call) and around[node].func is node
        if isinstance(node, ast.Attribute) and isinstance(node.ctx, ast.Load) and not is_called:
            if node.attr in OWN_METHODS | own and not is_key(node, around):
                yield node.lineno, "L25: a method that is not called where it stands: " + node.attr
        if isinstance(node, ast.Name) and isinstance(node.ctx, ast.Load) and not is_called:
            by_isinstance = called(around[node]) == "isinstance" or (
                isinstance(around[node], ast.Tuple) and called(around[around[node]]) == "isinstance")
            if node.id in OWN_NAMES and not by_isinstance and not is_key(node, around):
                if not isinstance(around[node], (ast.ClassDef, ast.ExceptHandler)):
                    yield node.lineno, "L22: a name of Python's own that is not called: " + node.id
            if node.id in classes and not by_isinstance:
                if not isinstance(around[node], (ast.ClassDef, ast.ExceptHandler, ast.Raise, ast.Attribute)):
                    yield node.lineno, "L18: a class that is kept, handed on or shown: " + node.id


def target_faults(tree):
    for node in ast.walk(tree):
        for target in getattr(node, "targets", []) + ([node.target] if isinstance(node, ast.AugAssign) else []):
            while isinstance(target, (ast.Attribute, ast.Subscript)):
                target = target.value
            if not isinstance(target, (ast.Name, ast.Tuple)):
                yield node.lineno, "L18: a value that is not given through a local name"


def walked_names(node):
    """The names, as texts, that a loop walks by itself or through what walks them."""
    if called(node) in ("enumerate", "zip", "reversed"):
        return [name for part in node.args for name in walked_names(part)]
    if isinstance(node, ast.Call) and isinstance(node.func, ast.Attribute) and node.func.attr in WALKED_METHODS:
        return walked_names(node.func.value)
    return [ast.unparse(node)] if isinstance(node, (ast.Name, ast.Attribute, ast.Subscript)) else []


def changed_names(node):
    """The names, as texts, of what a loop's body changes."""
    for part in ast.walk(node):
        if isinstance(part, ast.Call) and isinstance(part.func, ast.Attribute) and part.func.attr in CHANGING_METHODS:
            yield ast.unparse(part.func.value)
        if isinstance(part, ast.Subscript) and isinstance(part.ctx, ast.Store):
            yield ast.unparse(part.value)


def loop_faults(tree):
    for node in ast.walk(tree):
        if isinstance(node, ast.For):
            changed = {name for part in node.body for name in changed_names(part)}
            for name in changed & set(walked_names(node.iter)):
                yield node.lineno, "L23: what a loop walks is changed in it: " + name


def init_faults(tree):
    for node in ast.walk(tree):
        if isinstance(node, ast.FunctionDef) and node.name == "__init__":
            if any(isinstance(part, ast.Return) for part in ast.walk(node)):
                yield node.lineno, "L28: an __init__ that gives something back"


def class_name_faults(trees):
    """What is asked of the names of methods and values in the whole package."""
    methods, values = methods_of(trees), values_of(trees)
    for name in sorted(methods & values):
        yield 0, "L18: a method in one class and a value in another: " + name
    for name in sorted(methods - DOUBLE_METHODS):
        if name in NAMES_OF_VALUES - OWN_METHODS - {"add", "discard"} or name.startswith("__"):
            yield 0, "L5, L26: a method that is not free: " + name
    for name in sorted(values & NAMES_OF_VALUES - VALUES_LET_BY):
        yield 0, "L26: a value that is not free: " + name


def faults(text, defined_in=None, own=frozenset()):
    tree = ast.parse(text)
    found = list(text_faults(text)) + list(top_faults(tree)) + list(place_faults(tree)) + list(shadow_faults(tree))
    found += list(import_faults(tree, defined_in or {})) + list(method_faults(tree, own))
    found += list(annotation_faults(tree)) + list(handed_on_faults(tree, own)) + list(target_faults(tree))
    found += list(loop_faults(tree)) + list(init_faults(tree))
    for node in ast.walk(tree):
        fault = node_fault(node)
        if fault:
            found.append((getattr(node, "lineno", 0), fault))
    return found


def drawn_from(tree):
    return [node.module for node in tree.body if isinstance(node, ast.ImportFrom)]


class PackageTest(unittest.TestCase):
    def setUp(self):
        self.paths = sorted(path for path in PACKAGE.iterdir() if path.name != "__pycache__")
        self.texts = {"whyrows." + path.stem: path.read_text(encoding="utf-8") for path in self.paths}
        self.trees = {module: ast.parse(text) for module, text in self.texts.items()}

    def test_files(self):
        self.assertIn("whyrows.__init__", self.texts)
        for path in self.paths:
            self.assertTrue(path.is_file())
            self.assertRegex(path.name, r"\A([a-z][a-z0-9_]*|__init__|__main__)\.py\Z")
            self.assertNotIn(path.stem, PYTHON_NAMES)
            self.assertNotRegex(path.stem, r"\A(tests?|testing|test_.*|site|conftest|sitecustomize|usercustomize)\Z")
            self.assertIsNone(WORDS_NOWHERE.fullmatch(path.stem))

    def test_each_file_keeps_to_the_rules(self):
        defined_in = {module: {name for node in tree.body if not isinstance(node, ast.ImportFrom)
                               for name in bound_at_top(node)} for module, tree in self.trees.items()}
        own = methods_of(self.trees.values())
        for module, text in self.texts.items():
            with self.subTest(module=module):
                self.assertEqual(faults(text, defined_in, own), [])

    def test_names_of_methods_and_values(self):
        self.assertEqual(list(class_name_faults(list(self.trees.values()))), [])

    def test_no_two_files_draw_from_one_another(self):
        left = {module: drawn_from(tree) for module, tree in self.trees.items()}
        while left:
            free = [module for module, drawn in left.items() if not any(one in left for one in drawn)]
            self.assertTrue(free, "these draw from one another: " + ", ".join(left))
            left = {module: drawn for module, drawn in left.items() if module not in free}


class FaultsTest(unittest.TestCase):
    """That the rules are really seen."""

    def test_what_is_let_by(self):
        for text in ['"""A file."""\n', "X = 1\n", "def f(x, y=2):\n    return [a for a in x if a is not None]\n",
                     "class E(ValueError):\n    pass\n", "def f(x):\n    return f'{x} {x!r}'\n",
                     "def f(x):\n    x.append(-1)\n    return x[0] ** 2\n",
                     "def f(x):\n    return sorted(set(x) - set([1])) + [len(set(x))]\n",
                     "def f(x):\n    return [a for a in range(max([b for b, c in x.items()], default=0))]\n",
                     "def f(x):\n    return isinstance(x, (int, str)) or sorted(x, key=len) == list(x)\n",
                     "class A:\n    pass\n\n\nclass B(A):\n    def __init__(self):\n        A.__init__(self)\n",
                     "def f(x):\n    for y in list(x):\n        x[y] = 1\n    y = x[0]\n    y[1] = 2\n"]:
            with self.subTest(text=text):
                self.assertEqual(faults(text), [])

    def test_what_is_not(self):
        for text in [
            "import os\n", "from os import path\n", "from . import words\n", "def f(*x):\n    return x\n",
            "def f(x):\n    assert x\n", "def f(x):\n    with x:\n        pass\n", "def f(x):\n    return x / 2\n",
            "X = 1.5\n", "X = b''\n", "def f(x):\n    return {a for a in x}\n",
            "def f(x):\n    return any(a for a in x)\n",
            "def f(x):\n    return [a for b in x for a in b]\n", "def f(x):\n    return open(x)\n",
            "def f(x):\n    x.sort()\n",
            "def f(x):\n    return hash(x)\n", "def f(sum):\n    return sum\n", "def f(x):\n    a = b = x\n",
            "def f(x):\n    _ = x\n", "def f(x, y):\n    return x is y\n",
            "X = 1\nX = 2\n", "f(1)\n", "X = 'a%'\n", "X = '\xe9'\n", "X = 1 # its type\n", "def f(x):\n\treturn x\n",
            "def f(x):\n    return 2 ** x\n", "def f(x):\n    return (y := x)\n",
            "def f(x):\n    for y in x:\n        pass\n    else:\n        pass\n",
            "def f(x):\n    try:\n        x()\n    except:\n        pass\n", "class A:\n    x = 1\n",
            "class A(B, C):\n    pass\n",
            "def f(x):\n" + "    x = 1\n" * 40, "X = 1\n" + "\n" * 400, "X = '" + "a" * 120 + "'\n",
            "def f(x):\n    yield x\n",
            "def f(x):\n    global y\n", "def f(x):\n    return chr(x)\n", "def f(x):\n    return f(*x)\n",
            "def f(x):\n    y = set(x)\n    return y\n", "def f(x):\n    return [a for a in set(x)]\n",
            "def f(x):\n    return sorted(set(x), key=len)\n", "def f(x):\n    return set(x) - {1}\n",
            "def f(x):\n    y = range(x)\n    return y\n", "def f(x):\n    return x.items()\n",
            "def f(x):\n    return f'{x[0]}'\n", "def f(x):\n    return f'{x:3}'\n",
            "def f(x):\n    return int(x, base=2)\n", "class A:\n    pass\n\n\ndef f(A):\n    return 1\n",
            "def f(x: int):\n    return x\n", "def f(x) -> int:\n    return x\n",
            "def f(x):\n    return [len, x]\n", "def f(x):\n    y = x.append\n    return y\n",
            "class A:\n    pass\n\n\ndef f(x):\n    return [A]\n", "def f(x):\n    f(x)[0] = 1\n",
            "def f(x):\n    x.setdefault(1, {})[0] = 1\n", "def f(x):\n    for y in x:\n        x.append(y)\n",
            "def f(x):\n    for y, z in x.items():\n        x[y] = z\n",
            "def f(x):\n    for y, z in enumerate(x):\n        x.pop(y)\n",
            "class A:\n    def __init__(self):\n        return None\n",
            "def f(x):\n    try:\n        x()\n    except KeyError:\n        pass\n",
        ]:
            with self.subTest(text=text[:80]):
                self.assertNotEqual(faults(text), [])

    def test_names_of_methods_and_values(self):
        for text, truth in [
            ("class A:\n    def fits(self):\n        self.top = 1\n", True),
            ("class A:\n    def top(self):\n        return 1\n\n    def put(self):\n        self.top = 1\n", False),
            ("class A:\n    def sort(self):\n        return 1\n", False),
            ("class A:\n    def __hash__(self):\n        return 1\n", False),
            ("class A:\n    def put(self):\n        self.items = 1\n", False),
            ("class A:\n    def put(self):\n        self.count = 1\n", True),
        ]:
            with self.subTest(text=text):
                self.assertEqual(list(class_name_faults([ast.parse(text)])) == [], truth)


if __name__ == "__main__":
    unittest.main()
