"""The package keeps to the small part of Python that is asked of it, as far as its text alone shows that."""

import ast
import builtins
import pathlib
import re
import unittest

PACKAGE = pathlib.Path(__file__).resolve().parent.parent / "whyfacts"

NODES = set("""
Module FunctionDef ClassDef arguments arg Assign AugAssign If While For Return Break Continue Pass Raise Try ExceptHandler
Expr ImportFrom alias Constant List Tuple Dict Set ListComp comprehension BinOp UnaryOp BoolOp Compare IfExp Call keyword
Attribute Subscript Slice JoinedStr FormattedValue Name Lambda Load Store And Or Not UAdd USub Invert Add Sub Mult FloorDiv
Mod Pow BitAnd BitOr BitXor LShift RShift Eq NotEq Lt LtE Gt GtE Is IsNot In NotIn
""".split())
OWN_NAMES = set("""
len range enumerate zip min max sum abs sorted reversed int str bool list tuple dict set frozenset isinstance ord repr any all
divmod Exception ValueError TypeError KeyError IndexError LookupError ZeroDivisionError ArithmeticError OverflowError
RuntimeError NotImplementedError AttributeError StopIteration
""".split())
METHODS = set("""
append clear copy count endswith extend find get index insert isalnum isalpha isdigit islower isspace isupper items join keys
ljust lower lstrip partition pop remove replace reverse rfind rjust rpartition rsplit rstrip setdefault split splitlines
startswith strip update upper values zfill bit_length
""".split())
NO_WORDS = """
type typing typing_extensions enum Enum IntEnum StrEnum Flag IntFlag Generic Protocol ABC ABCMeta namedtuple NamedTuple
TypedDict TYPE_CHECKING abstractmethod register mro elements open input version_info with_traceback add_note
""".split()
LONG_NO_WORDS = ["dataclass", "overload", "contextmanager"]
TWO_UNDERSCORES = ["__init__", "__eq__", "__repr__", "__str__", "__len__"]


def all_of(tree, *kinds):
    return [node for node in ast.walk(tree) if isinstance(node, kinds)]


def faults_of_signs(text):
    faults = [f"sign {sign!r}" for sign in sorted(set(text)) if sign != "\n" and not " " <= sign <= "~"]
    rows = text.split("\n")
    faults += [f"row {place} is too long" for place, row in enumerate(rows, 1) if len(row) > 120]
    faults += ["too many rows"] if len(rows) > 401 else []
    faults += [f"word {word}" for word in NO_WORDS if re.search(rf"\b{word}\b", text)]
    return faults + [f"word {word}" for word in LONG_NO_WORDS if word in text]


def faults_of_top(tree):
    faults = []
    for place, node in enumerate(tree.body):
        said = isinstance(node, ast.Expr) and place == 0 and isinstance(node.value, ast.Constant)
        if not said and not isinstance(node, (ast.ImportFrom, ast.FunctionDef, ast.ClassDef, ast.Assign)):
            faults.append(f"{node.lineno}: stands at the top")
    bound = [node.name for node in tree.body if isinstance(node, (ast.FunctionDef, ast.ClassDef))]
    bound += [node.targets[0].id for node in tree.body if isinstance(node, ast.Assign)]
    bound += [alias.name for node in tree.body if isinstance(node, ast.ImportFrom) for alias in node.names]
    return faults + [f"{name} is bound twice" for name in sorted(set(bound)) if bound.count(name) > 1]


def faults_of_defs(tree):
    faults = []
    for node in all_of(tree, ast.FunctionDef):
        taken = node.args
        if taken.vararg or taken.kwarg or taken.kwonlyargs or taken.posonlyargs or node.decorator_list:
            faults.append(f"{node.lineno}: parameters or decorator")
        if node.end_lineno - node.lineno >= 40:
            faults.append(f"{node.lineno}: a long function")
    for node in all_of(tree, ast.ClassDef):
        plain = [part for part in node.body if isinstance(part, (ast.FunctionDef, ast.Pass))]
        if node.decorator_list or node.keywords or len(node.bases) > 1 or len(plain) < len(node.body):
            faults.append(f"{node.lineno}: a class that is not plain")
    return faults


def names_bound_in(tree):
    names = [(node.lineno, node.id) for node in all_of(tree, ast.Name) if isinstance(node.ctx, ast.Store)]
    names += [(node.lineno, node.arg) for node in all_of(tree, ast.arg)]
    names += [(node.lineno, node.name) for node in all_of(tree, ast.FunctionDef, ast.ClassDef)]
    return names + [(node.lineno, node.name) for node in all_of(tree, ast.ExceptHandler) if node.name]


def faults_of_names(tree):
    faults = []
    for line, name in names_bound_in(tree):
        if name.startswith("_") and name not in TWO_UNDERSCORES or not name.isascii() or name in vars(builtins):
            faults.append(f"{line}: the name {name}")
    for node in all_of(tree, ast.Name):
        if node.id in vars(builtins) and node.id not in OWN_NAMES:
            faults.append(f"{node.lineno}: Python's own {node.id}")
    own = [node.name for node in all_of(tree, ast.FunctionDef)]
    for node in all_of(tree, ast.Call):
        if isinstance(node.func, ast.Attribute) and node.func.attr not in METHODS and node.func.attr not in own:
            faults.append(f"{node.lineno}: the method {node.func.attr}")
    return faults


def is_switch(node):
    return isinstance(node, ast.Constant) and (node.value is None or isinstance(node.value, bool))


def faults_of_nodes(tree):
    faults = [f"{getattr(node, 'lineno', 0)}: a {name}" for node in ast.walk(tree)
              for name in [node.__class__.__name__] if name not in NODES]
    for node in all_of(tree, ast.Constant):
        if isinstance(node.value, (float, complex, bytes)) or isinstance(node.value, str) and "%" in node.value:
            faults.append(f"{node.lineno}: the value {node.value!r}")
    for node in all_of(tree, ast.Assign):
        faults += [f"{node.lineno}: two targets"] if len(node.targets) > 1 else []
    for node in all_of(tree, ast.For, ast.While):
        faults += [f"{node.lineno}: else behind a loop"] if node.orelse else []
    for node in all_of(tree, ast.ListComp):
        if len(node.generators) > 1 or len(node.generators[0].ifs) > 1:
            faults.append(f"{node.lineno}: a long comprehension")
    for node in all_of(tree, ast.Compare):
        for sign, side in zip(node.ops, node.comparators):
            if isinstance(sign, (ast.Is, ast.IsNot)) and not is_switch(side):
                faults.append(f"{node.lineno}: is")
    return faults


def faults_of_imports(tree):
    faults = []
    for node in all_of(tree, ast.ImportFrom):
        module = PACKAGE.parent / ((node.module or "").replace(".", "/") + ".py")
        if node.level or not (node.module or "").startswith("whyfacts.") or not module.is_file():
            faults.append(f"{node.lineno}: import from {node.module}")
            continue
        there = ast.parse(module.read_text()).body
        defined = [part.name for part in there if isinstance(part, (ast.FunctionDef, ast.ClassDef))]
        defined += [part.targets[0].id for part in there if isinstance(part, ast.Assign)]
        faults += [f"{node.lineno}: import of {alias.name}" for alias in node.names
                   if alias.name not in defined or alias.asname]
    return faults


def faults_of(text):
    tree = ast.parse(text)
    return (faults_of_signs(text) + faults_of_top(tree) + faults_of_defs(tree) + faults_of_names(tree)
            + faults_of_nodes(tree) + faults_of_imports(tree))


def draws_from(text):
    return [node.module.split(".")[-1] for node in all_of(ast.parse(text), ast.ImportFrom)]


class LanguageTest(unittest.TestCase):
    def files(self):
        return [path for path in sorted(PACKAGE.rglob("*")) if "__pycache__" not in path.parts]

    def test_only_python_files_with_plain_names_lie_in_the_package(self):
        self.assertIn("__init__.py", [path.name for path in self.files()])
        for path in self.files():
            with self.subTest(path.name):
                self.assertRegex(path.name, r"\A(__init__|__main__|[a-z][a-z0-9_]*)\.py\Z")
                self.assertFalse(path.stem in vars(builtins) or path.stem.startswith("test"))

    def test_every_file_keeps_to_the_language(self):
        for path in self.files():
            with self.subTest(path.name):
                self.assertEqual(faults_of(path.read_text(encoding="utf-8")), [])

    def test_no_two_files_draw_from_one_another(self):
        left = {path.stem: draws_from(path.read_text()) for path in self.files()}
        while left:
            free = [name for name in left if not any(other in left for other in left[name])]
            self.assertTrue(free, left)
            left = {name: left[name] for name in left if name not in free}

    def test_what_is_outside_the_language_is_seen(self):
        outside = [
            "import os\n", "from os import path\n", "from whyfacts.words import *\n", "from whyfacts.words import nothing\n",
            "print(1)\n", "x = 1\nx = 2\n", "x = y = 1\n", "x = 1.5\n", "x = b'a'\n", "x = '%'\n", "x = 1 / 2\n",
            "_x = 1\n", "def f(*a):\n    pass\n", "def f(a, *, b):\n    pass\n", "def f(len):\n    pass\n",
            "def f(a):\n    assert a\n", "def f(a):\n    del a\n", "def f(a):\n    yield a\n", "def f(a):\n    return hash(a)\n",
            "def f(a):\n    return a is a\n", "def f(a):\n    return a.title()\n", "def f(a):\n    return any(b for b in a)\n",
            "def f(a):\n    return {b: b for b in a}\n", "def f(a):\n    return [c for b in a for c in b]\n",
            "def f(a):\n    for b in a:\n        pass\n    else:\n        pass\n", "def f():\n    pass\n" + "\n" * 400,
            "def f():\n" + "    pass\n" * 40, "# " + "a" * 119 + "\n", "# the type of it\n", "# a\ttab\n", "# \xe9\n",
            "class A:\n    x = 1\n", "class A(ValueError, KeyError):\n    pass\n", "def f(a):\n    with a:\n        pass\n",
        ]
        for text in outside:
            with self.subTest(text):
                self.assertNotEqual(faults_of(text), [])


if __name__ == "__main__":
    unittest.main()
