"""The package keeps to the small part of Python that is asked of it, as far as its text alone shows that."""

import ast
import builtins
import pathlib
import re
import unittest

PACKAGE = pathlib.Path(__file__).resolve().parent.parent / "whyfacts"

NODES = set("""
Module FunctionDef ClassDef arguments arg Assign AugAssign If While For Return Break Continue Pass Raise Try ExceptHandler
Expr ImportFrom alias Constant List Tuple Dict Set ListComp comprehension BinOp UnaryOp BoolOp Compare IfExp Call keyword
Attribute Subscript Slice JoinedStr FormattedValue Name Lambda Load Store And Or Not UAdd USub Invert Add Sub Mult FloorDiv
Mod Pow BitAnd BitOr BitXor LShift RShift Eq NotEq Lt LtE Gt GtE Is IsNot In NotIn
""".split())
OWN_NAMES = set("""
len range enumerate zip min max sum abs sorted reversed int str bool list tuple dict set frozenset isinstance ord repr any all
divmod Exception ValueError TypeError KeyError IndexError LookupError ZeroDivisionError ArithmeticError OverflowError
RuntimeError NotImplementedError AttributeError StopIteration
""".split())
METHODS = set("""
append clear copy count endswith extend find get index insert isalnum isalpha isdigit islower isspace isupper items join keys
ljust lower lstrip partition pop remove replace reverse rfind rjust rpartition rsplit rstrip setdefault split splitlines
startswith strip update upper values zfill bit_length
""".split())
NO_WORDS = """
type typing typing_extensions enum Enum IntEnum StrEnum Flag IntFlag Generic Protocol ABC ABCMeta namedtuple NamedTuple
TypedDict TYPE_CHECKING abstractmethod register mro elements open input version_info with_traceback add_note
""".split()
LONG_NO_WORDS = ["dataclass", "overload", "contextmanager"]
NO_NAMES = set("""
attrgetter breakpoint builtins compile copyright credits delattr dir eval exec exit gc getattr globals hasattr help id importlib
license locals methodcaller os quit setattr super type vars sys
""".split())
WALKS = ["zip", "enumerate", "reversed", "range"]
DICT_WALKS = ["items", "keys", "values"]
WALKERS = ["list", "tuple", "dict", "sorted", "sum", "any", "all", "enumerate", "zip", "min", "max"]
KEYWORDS = {"sorted": ["key", "reverse"], "min": ["key", "default"], "max": ["key", "default"], "sum": ["start"],
            "enumerate": ["start"], "zip": ["strict"]}
NO_VALUES = "items keys values pop update append clear extend insert remove reverse setdefault sort args encode format".split()
TWO_UNDERSCORES = ["__init__", "__eq__", "__repr__", "__str__", "__len__"]


def all_of(tree, *kinds):
    return [node for node in ast.walk(tree) if isinstance(node, kinds)]


def faults_of_signs(text):
    faults = [f"sign {sign!r}" for sign in sorted(set(text)) if sign != "\n" and not " " <= sign <= "~"]
    rows = text.split("\n")
    faults += [f"row {place} is too long" for place, row in enumerate(rows, 1) if len(row) > 120]
    faults += ["too many rows"] if len(rows) > 401 else []
    faults += [f"word {word}" for word in NO_WORDS if re.search(rf"\b{word}\b", text)]
    return faults + [f"word {word}" for word in LONG_NO_WORDS if word in text]


def faults_of_top(tree):
    faults = []
    for place, node in enumerate(tree.body):
        said = isinstance(node, ast.Expr) and place == 0 and isinstance(node.value, ast.Constant)
        if not said and not isinstance(node, (ast.ImportFrom, ast.FunctionDef, ast.ClassDef, ast.Assign)):
            faults.append(f"{node.lineno}: stands at the top")
    bound = [node.name for node in tree.body if isinstance(node, (ast.FunctionDef, ast.ClassDef))]
    bound += [node.targets[0].id for node in tree.body if isinstance(node, ast.Assign)]
    bound += [alias.name for node in tree.body if isinstance(node, ast.ImportFrom) for alias in node.names]
    return faults + [f"{name} is bound twice" for name in sorted(set(bound)) if bound.count(name) > 1]


def faults_of_defs(tree):
    faults = []
    for node in all_of(tree, ast.FunctionDef):
        taken = node.args
        if taken.vararg or taken.kwarg or taken.kwonlyargs or taken.posonlyargs or node.decorator_list:
            faults.append(f"{node.lineno}: parameters or decorator")
        if node.end_lineno - node.lineno >= 40:
            faults.append(f"{node.lineno}: a long function")
    for node in all_of(tree, ast.ClassDef):
        plain = [part for part in node.body if isinstance(part, (ast.FunctionDef, ast.Pass))]
        if node.decorator_list or node.keywords or len(node.bases) > 1 or len(plain) < len(node.body):
            faults.append(f"{node.lineno}: a class that is not plain")
    return faults


def names_bound_in(tree):
    names = [(node.lineno, node.id) for node in all_of(tree, ast.Name) if isinstance(node.ctx, ast.Store)]
    names += [(node.lineno, node.arg) for node in all_of(tree, ast.arg)]
    names += [(node.lineno, node.name) for node in all_of(tree, ast.FunctionDef, ast.ClassDef)]
    return names + [(node.lineno, node.name) for node in all_of(tree, ast.ExceptHandler) if node.name]


def faults_of_names(tree):
    faults = []
    for line, name in names_bound_in(tree):
        if name.startswith("_") and name not in TWO_UNDERSCORES or not name.isascii() or name in vars(builtins):
            faults.append(f"{line}: the name {name}")
    for node in all_of(tree, ast.Name):
        if node.id in vars(builtins) and node.id not in OWN_NAMES:
            faults.append(f"{node.lineno}: Python's own {node.id}")
        faults += [f"{node.lineno}: the name {node.id}"] if node.id in NO_NAMES else []
    taken = [node.name for node in tree.body if isinstance(node, ast.ClassDef)]
    taken += [alias.name for node in all_of(tree, ast.ImportFrom) for alias in node.names]
    for part in all_of(tree, ast.FunctionDef):
        faults += [f"{line}: {name} is taken" for line, name in names_bound_in(part) if name in taken]
    own = [node.name for node in all_of(tree, ast.FunctionDef)] + own_methods()
    for node in all_of(tree, ast.Call):
        if isinstance(node.func, ast.Attribute) and node.func.attr not in METHODS and node.func.attr not in own:
            faults.append(f"{node.lineno}: the method {node.func.attr}")
    return faults


def package_trees():
    return [ast.parse(path.read_text(encoding="utf-8")) for path in sorted(PACKAGE.glob("*.py"))]


def own_methods():
    classes = [part for tree in package_trees() for part in all_of(tree, ast.ClassDef)]
    return [part.name for owner in classes for part in owner.body if isinstance(part, ast.FunctionDef)]


def own_values():
    nodes = [node for tree in package_trees() for node in all_of(tree, ast.Attribute)]
    return [node.attr for node in nodes if isinstance(node.ctx, ast.Store)]


def is_plain(node, defined):
    if isinstance(node, (ast.Tuple, ast.List, ast.Dict)):
        parts = node.keys + node.values if isinstance(node, ast.Dict) else node.elts
        return all(is_plain(part, defined) and not isinstance(part, (ast.List, ast.Dict)) for part in parts)
    if isinstance(node, ast.UnaryOp):
        return isinstance(node.op, ast.USub) and isinstance(node.operand, ast.Constant)
    return isinstance(node, ast.Constant) or isinstance(node, ast.Name) and node.id in defined


def faults_of_values(tree):
    faults = []
    defined = []
    for node in tree.body:
        defined += [node.name] if isinstance(node, ast.FunctionDef) else []
        if isinstance(node, ast.Assign) and not is_plain(node.value, defined):
            faults.append(f"{node.lineno}: no plain value")
    for node in all_of(tree, ast.FunctionDef):
        annotated = node.returns or any(arg.annotation for arg in all_of(node, ast.arg))
        faults += [f"{node.lineno}: an annotation"] if annotated else []
        for part in all_of(node, ast.Expr):
            faults += [f"{part.lineno}: a value by itself"] if not isinstance(part.value, ast.Call) else []
    for node in all_of(tree, ast.FormattedValue):
        if not isinstance(node.value, ast.Name) or node.format_spec or node.conversion not in (-1, ord("r")):
            faults.append(f"{node.lineno}: an f-string")
    for node in all_of(tree, ast.BinOp):
        if isinstance(node.op, ast.Pow) and not isinstance(node.right, ast.Constant):
            faults.append(f"{node.lineno}: a power")
    for node in all_of(tree, ast.Attribute):
        if isinstance(node.ctx, ast.Store) and node.attr in NO_VALUES:
            faults.append(f"{node.lineno}: the value {node.attr}")
    return faults


def is_walk(node):
    if not isinstance(node, ast.Call):
        return False
    if isinstance(node.func, ast.Name):
        return node.func.id in WALKS
    return isinstance(node.func, ast.Attribute) and node.func.attr in DICT_WALKS


def faults_of_walks(tree):
    walked = [node.iter for node in all_of(tree, ast.For, ast.comprehension)]
    for node in all_of(tree, ast.Call):
        joins = isinstance(node.func, ast.Attribute) and node.func.attr == "join"
        if node.args and (joins or isinstance(node.func, ast.Name) and node.func.id in WALKERS):
            walked.append(node.args[0])
    faults = [f"{node.lineno}: kept, not walked" for node in all_of(tree,
                                                                    ast.Call) if is_walk(node) and node not in walked]
    for node in all_of(tree, ast.Call):
        if isinstance(node.func, ast.Name) and node.func.id in vars(builtins):
            wrong = [word.arg for word in node.keywords if word.arg not in KEYWORDS.get(node.func.id, [])]
            faults += [f"{node.lineno}: the keyword {word}" for word in wrong]
    return faults


def faults_of_sets(tree):
    places = []
    for node in all_of(tree, ast.Compare):
        places += [node.left] + node.comparators
    for node in all_of(tree, ast.Call):
        places += node.args if isinstance(node.func, ast.Name) and node.func.id in ("sorted", "len") else []
    for node in all_of(tree, ast.BinOp):
        places += [node.left, node.right] if node in places else []
    made = [node for node in all_of(tree, ast.Call) if isinstance(node.func, ast.Name) and node.func.id in ("set",
                                                                                                            "frozenset")]
    return [f"{node.lineno}: a set that is kept" for node in made + all_of(tree, ast.Set) if node not in places]


def faults_of_errors(tree):
    faults = []
    for node in all_of(tree, ast.ExceptHandler):
        if not isinstance(node.type, ast.Name) or node.type.id in ("Exception", "TypeError", "ValueError", "FactError"):
            faults.append(f"{node.lineno}: what is taken")
    for node in all_of(tree, ast.Raise):
        faults += [f"{node.lineno}: what is raised"] if not isinstance(node.exc, ast.Call) else []
    return faults


def changes_in(part):
    changing = ["append", "clear", "extend", "insert", "pop", "remove", "reverse", "setdefault", "update"]
    for node in all_of(part, ast.Call):
        if isinstance(node.func, ast.Attribute) and node.func.attr in changing:
            yield node.lineno, ast.dump(node.func.value)
    for node in all_of(part, ast.Subscript):
        if isinstance(node.ctx, ast.Store):
            yield node.lineno, ast.dump(node.value).replace("Store()", "Load()")


def faults_of_loops(tree):
    faults = []
    for node in all_of(tree, ast.For):
        over = node.iter
        if is_walk(over):
            over = over.args[0] if isinstance(over.func, ast.Name) else over.func.value
        faults += [f"{line}: what is walked is changed" for line,
                   changed in changes_in(node) if changed == ast.dump(over)]
    return faults


def is_switch(node):
    return isinstance(node, ast.Constant) and (node.value is None or isinstance(node.value, bool))


def faults_of_nodes(tree):
    faults = [f"{getattr(node, 'lineno', 0)}: a {name}" for node in ast.walk(tree)
              for name in [node.__class__.__name__] if name not in NODES]
    for node in all_of(tree, ast.Constant):
        if isinstance(node.value, (float, complex, bytes)) or isinstance(node.value, str) and "%" in node.value:
            faults.append(f"{node.lineno}: the value {node.value!r}")
    for node in all_of(tree, ast.Assign):
        faults += [f"{node.lineno}: two targets"] if len(node.targets) > 1 else []
    for node in all_of(tree, ast.For, ast.While):
        faults += [f"{node.lineno}: else behind a loop"] if node.orelse else []
    for node in all_of(tree, ast.ListComp):
        if len(node.generators) > 1 or len(node.generators[0].ifs) > 1:
            faults.append(f"{node.lineno}: a long comprehension")
    for node in all_of(tree, ast.Compare):
        for sign, side in zip(node.ops, node.comparators):
            if isinstance(sign, (ast.Is, ast.IsNot)) and not is_switch(side):
                faults.append(f"{node.lineno}: is")
    return faults


def faults_of_imports(tree):
    faults = []
    for node in all_of(tree, ast.ImportFrom):
        module = PACKAGE.parent / ((node.module or "").replace(".", "/") + ".py")
        if node.level or not (node.module or "").startswith("whyfacts.") or not module.is_file():
            faults.append(f"{node.lineno}: import from {node.module}")
            continue
        there = ast.parse(module.read_text()).body
        defined = [part.name for part in there if isinstance(part, (ast.FunctionDef, ast.ClassDef))]
        defined += [part.targets[0].id for part in there if isinstance(part, ast.Assign)]
        faults += [f"{node.lineno}: import of {alias.name}" for alias in node.names
                   if alias.name not in defined or alias.asname]
    return faults


def faults_of(text):
    tree = ast.parse(text)
    return (faults_of_signs(text) + faults_of_top(tree) + faults_of_defs(tree) + faults_of_names(tree)
            + faults_of_nodes(tree) + faults_of_imports(tree) + faults_of_values(tree) + faults_of_walks(tree)
            + faults_of_sets(tree) + faults_of_errors(tree) + faults_of_loops(tree))


def draws_from(text):
    return [node.module.split(".")[-1] for node in all_of(ast.parse(text), ast.ImportFrom)]


class LanguageTest(unittest.TestCase):
    def files(self):
        return [path for path in sorted(PACKAGE.rglob("*")) if "__pycache__" not in path.parts]

    def test_only_python_files_with_plain_names_lie_in_the_package(self):
        self.assertIn("__init__.py", [path.name for path in self.files()])
        for path in self.files():
            with self.subTest(path.name):
                self.assertRegex(path.name, r"\A(__init__|__main__|[a-z][a-z0-9_]*)\.py\Z")
                self.assertFalse(path.stem in vars(builtins) or path.stem.startswith("test"))

    def test_every_file_keeps_to_the_language(self):
        for path in self.files():
            with self.subTest(path.name):
                self.assertEqual(faults_of(path.read_text(encoding="utf-8")), [])

    def test_no_name_is_a_method_here_and_a_value_there(self):
        self.assertEqual(sorted(set(own_methods()) & set(own_values())), [])

    def test_no_file_draws_on_what_it_does_not_use(self):
        for path in self.files():
            tree = ast.parse(path.read_text(encoding="utf-8"))
            used = [node.id for node in all_of(tree, ast.Name)]
            with self.subTest(path.name):
                drawn = [alias.name for node in all_of(tree, ast.ImportFrom) for alias in node.names]
                self.assertEqual([name for name in drawn if name not in used], [])

    def test_no_two_files_draw_from_one_another(self):
        left = {path.stem: draws_from(path.read_text()) for path in self.files()}
        while left:
            free = [name for name in left if not any(other in left for other in left[name])]
            self.assertTrue(free, left)
            left = {name: left[name] for name in left if name not in free}

    def test_what_is_outside_the_language_is_seen(self):
        outside = [
            "import os\n", "from os import path\n", "from whyfacts.words import *\n",
            "from whyfacts.words import nothing\n",
            "print(1)\n", "x = 1\nx = 2\n", "x = y = 1\n", "x = 1.5\n", "x = b'a'\n", "x = '%'\n", "x = 1 / 2\n",
            "_x = 1\n", "def f(*a):\n    pass\n", "def f(a, *, b):\n    pass\n", "def f(len):\n    pass\n",
            "def f(a):\n    assert a\n", "def f(a):\n    del a\n", "def f(a):\n    yield a\n",
            "def f(a):\n    return hash(a)\n",
            "def f(a):\n    return a is a\n", "def f(a):\n    return a.title()\n",
            "def f(a):\n    return any(b for b in a)\n",
            "def f(a):\n    return {b: b for b in a}\n", "def f(a):\n    return [c for b in a for c in b]\n",
            "def f(a):\n    for b in a:\n        pass\n    else:\n        pass\n", "def f():\n    pass\n" + "\n" * 400,
            "def f():\n" + "    pass\n" * 40, "# " + "a" * 119 + "\n", "# the type of it\n", "# a\ttab\n", "# \xe9\n",
            "x = 1 + 2\n", "x = {1: [1]}\n", "x = [[1]]\n", "def f(a):\n    a\n", "def f(a):\n    'said'\n",
            "def f(a: int):\n    return a\n", "def f(a):\n    return f'{a[0]}'\n", "def f(a):\n    return f'{a:5}'\n",
            "def f(a):\n    return 2 ** a\n", "def f(a):\n    b = zip(a, a)\n    return b\n",
            "def f(a):\n    return a.items()\n",
            "def f(a):\n    b = set(a)\n    return b\n", "def f(a):\n    for b in set(a):\n        pass\n",
            "def f(a):\n    try:\n        a()\n    except ValueError:\n        pass\n", "def f(a):\n    raise a\n",
            "def f(a):\n    for b in a:\n        a.append(b)\n",
            "def f(a):\n    for b in a.items():\n        a[b] = b\n",
            "def f(a):\n    for b, c in enumerate(a):\n        a[b] = c\n",
            "def f(a):\n    return sorted(a, reverse=True, key2=1)\n",
            "from whyfacts.words import is_free\n\n\ndef f(is_free):\n    return is_free\n",
            "def f(a):\n    a.keys = 1\n",
            "class A:\n    x = 1\n", "class A(ValueError, KeyError):\n    pass\n",
            "def f(a):\n    with a:\n        pass\n",
        ]
        for text in outside:
            with self.subTest(text):
                self.assertNotEqual(faults_of(text), [])


if __name__ == "__main__":
    unittest.main()
