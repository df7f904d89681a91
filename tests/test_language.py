"""The package keeps to the small part of the language that its rules L1 to L28 tell.

Each look at the package's files names the rules that it looks after. The looks are exercised themselves
on small wrong programs, so that a look that sees nothing is seen.
"""

import ast
import builtins
import re
import unittest
from pathlib import Path

PACKAGE = Path(__file__).resolve().parent.parent / "flips"

STATEMENTS = (ast.Assign, ast.AugAssign, ast.If, ast.While, ast.For, ast.Return, ast.Break, ast.Continue, ast.Pass,
              ast.Raise, ast.Try, ast.ExceptHandler, ast.Expr, ast.FunctionDef, ast.ClassDef, ast.ImportFrom)
EXPRESSIONS = (ast.Constant, ast.List, ast.Tuple, ast.Dict, ast.BinOp, ast.UnaryOp, ast.BoolOp, ast.Compare,
               ast.IfExp, ast.Call, ast.Attribute, ast.Subscript, ast.Slice, ast.ListComp, ast.JoinedStr,
               ast.FormattedValue, ast.Name, ast.Lambda, ast.Set)
HELPERS = (ast.Module, ast.arguments, ast.arg, ast.alias, ast.comprehension, ast.keyword, ast.expr_context,
           ast.operator, ast.unaryop, ast.boolop, ast.cmpop)
OWN_NAMES = set("""len range enumerate zip min max sum abs sorted reversed int str bool list tuple dict set frozenset
    isinstance ord repr any all divmod Exception ValueError TypeError KeyError IndexError LookupError
    ZeroDivisionError ArithmeticError OverflowError RuntimeError NotImplementedError AttributeError
    StopIteration""".split())
METHODS = set("""append clear copy count endswith extend find get index insert isalnum isalpha isdigit islower isspace
    isupper items join keys ljust lower lstrip partition pop remove replace reverse rfind rjust rpartition rsplit
    rstrip setdefault split splitlines startswith strip update upper values zfill bit_length""".split())
NEVER = set("""register mro elements open input version_info with_traceback add_note format format_map attrgetter
    breakpoint builtins compile copyright credits delattr dir eval exec exit gc getattr globals hasattr help id
    importlib license locals methodcaller os quit setattr super type vars sys""".split())
NOWHERE = re.compile(r"\b(type|typing|typing_extensions|enum|Enum|IntEnum|StrEnum|Flag|IntFlag|Generic|Protocol|ABC"
                     r"|ABCMeta|namedtuple|NamedTuple|TypedDict|TYPE_CHECKING|abstractmethod)\b"
                     r"|dataclass|overload|contextmanager")
DUNDERS = ("__init__", "__eq__", "__repr__", "__str__", "__len__")
WALKED = ("zip", "enumerate", "reversed", "range")
WALKED_METHODS = ("items", "keys", "values")
WALKERS = ("list", "tuple", "dict", "sorted", "sum", "any", "all", "enumerate", "zip", "min", "max")


def look_at_signs(text):
    """L10, L14, L17, L27."""
    rows = text.split("\n")
    if len(rows) > 400:
        yield "L10 file"
    for row in rows:
        if len(row) > 120 or "\t" in row:
            yield "L10 line"
        if NOWHERE.search(row):
            yield "L17 word"
        if any(not " " <= letter <= "~" for letter in row):
            yield "L14 sign"


def is_plain_value(node):
    if isinstance(node, (ast.Tuple, ast.List)):
        return all(is_plain_value(part) for part in node.elts)
    if isinstance(node, ast.Dict):
        return all(is_plain_value(part) for part in node.keys + node.values)
    if isinstance(node, ast.UnaryOp):
        return isinstance(node.op, ast.USub) and isinstance(node.operand, ast.Constant)
    return isinstance(node, (ast.Constant, ast.Name))


def look_at_top(tree):
    """L2, L3, L15, L16."""
    bound = []
    for number, node in enumerate(tree.body):
        if isinstance(node, ast.Expr):
            if number or not (isinstance(node.value, ast.Constant) and isinstance(node.value.value, str)):
                yield "L3 row"
        elif isinstance(node, ast.ImportFrom):
            if node.level or not re.fullmatch(r"flips\.[a-z]+", node.module or ""):
                yield "L2 import"
            if any(alias.asname or alias.name == "*" for alias in node.names):
                yield "L2 name"
            bound += [alias.name for alias in node.names]
        elif isinstance(node, (ast.FunctionDef, ast.ClassDef)):
            bound.append(node.name)
        elif isinstance(node, ast.Assign) and isinstance(node.targets[0], ast.Name):
            if not is_plain_value(node.value):
                yield "L3 value"
            bound.append(node.targets[0].id)
        else:
            yield "L3 row"
    if len(bound) != len(set(bound)):
        yield "L15 twice"


def look_at_defs(tree):
    """L4, L5, L10, L12, L15, L21, L28."""
    tops = [alias.name for node in tree.body if isinstance(node, ast.ImportFrom) for alias in node.names]
    tops += [node.name for node in tree.body if isinstance(node, ast.ClassDef)]
    for node in ast.walk(tree):
        if isinstance(node, ast.FunctionDef):
            spec = node.args
            if spec.vararg or spec.kwarg or spec.kwonlyargs or spec.posonlyargs or node.decorator_list:
                yield "L4 def"
            if node.returns or any(part.annotation for part in spec.args):
                yield "L21 annotation"
            if node.end_lineno - node.lineno + 1 > 40:
                yield "L10 def"
            if node.name.startswith("_") and node.name not in DUNDERS:
                yield "L12 def"
            names = [part.arg for part in spec.args]
            names += [part.id for part in ast.walk(node)
                      if isinstance(part, ast.Name) and isinstance(part.ctx, ast.Store)]
            for name in names:
                if name in tops or hasattr(builtins, name):
                    yield "L15 local"
        if isinstance(node, ast.ClassDef):
            if len(node.bases) > 1 or node.keywords or node.decorator_list or node not in tree.body:
                yield "L5 class"
            if not all(isinstance(part, (ast.FunctionDef, ast.Pass)) for part in node.body):
                yield "L5 body"


def look_at_steps(tree):
    """L6, L7, L13, L19, L20, L24, L27."""
    for node in ast.walk(tree):
        if not isinstance(node, STATEMENTS + EXPRESSIONS + HELPERS):
            yield "L6 or L7 " + type(node).__name__
        if isinstance(node, ast.Assign) and len(node.targets) != 1:
            yield "L6 targets"
        if isinstance(node, (ast.For, ast.While)) and node.orelse:
            yield "L6 else"
        if isinstance(node, ast.Try) and node.finalbody:
            yield "L6 finally"
        if isinstance(node, ast.ExceptHandler):
            names = [part.id for part in ast.walk(node.type) if isinstance(part, ast.Name)] if node.type else [""]
            if set(names) & {"", "Exception", "TypeError"}:
                yield "L19 except"
        if isinstance(node, ast.ListComp) and (len(node.generators) != 1 or len(node.generators[0].ifs) > 1):
            yield "L7 comprehension"
        if isinstance(node, ast.Constant) and type(node.value) not in (int, str, bool, type(None)):
            yield "L7 constant"
        if isinstance(node, ast.Constant) and isinstance(node.value, str) and "%" in node.value:
            yield "L27 sign"
        if isinstance(node, (ast.BinOp, ast.AugAssign)):
            if isinstance(node.op, (ast.Div, ast.MatMult)):
                yield "L7 operator"
            written = node.right if isinstance(node, ast.BinOp) else node.value
            if isinstance(node.op, ast.Pow) and not (isinstance(written, ast.Constant) and 0 <= written.value <= 64):
                yield "L27 power"
        if isinstance(node, ast.Compare) and any(isinstance(op, (ast.Is, ast.IsNot)) for op in node.ops):
            sides = [node.left] + node.comparators
            if not any(isinstance(side, ast.Constant) and side.value in (None, True, False) for side in sides):
                yield "L20 is"


def look_at_names(tree, methods, defined):
    """L8, L12, L17, L18, L22, L23, L25."""
    walked = walked_on_the_spot(tree)
    for node in ast.walk(tree):
        name = node.id if isinstance(node, ast.Name) else node.attr if isinstance(node, ast.Attribute) else None
        if name is None:
            continue
        if name in NEVER:
            yield "L17 name"
        if not re.fullmatch("[A-Za-z][A-Za-z0-9_]*", name) and name != "__init__":
            yield "L12 name"
        if isinstance(node, ast.Name) and hasattr(builtins, name) and name not in OWN_NAMES:
            yield "L8 name"
        if isinstance(node, ast.Name) and isinstance(node.ctx, ast.Load) and name not in defined \
                and not hasattr(builtins, name):
            yield "L8 unknown " + name
    for node in ast.walk(tree):
        if isinstance(node, ast.Call):
            if isinstance(node.func, ast.Attribute) and node.func.attr not in METHODS | set(methods):
                yield "L25 method"
            if isinstance(node.func, ast.Name) and node.func.id in WALKED and node not in walked:
                yield "L23 kept"
            if isinstance(node.func, ast.Attribute) and node.func.attr in WALKED_METHODS and node not in walked:
                yield "L23 kept"
            if isinstance(node.func, ast.Name) and node.func.id == "frozenset":
                yield "L24 set"


def look_at_sets(tree):
    """L24: a set stands straight within sorted or len, without a keyword, or behind in."""
    right = []
    for node in ast.walk(tree):
        if isinstance(node, ast.Call) and isinstance(node.func, ast.Name) and node.func.id in ("sorted", "len"):
            right += node.args if not node.keywords else []
        if isinstance(node, ast.Compare) and isinstance(node.ops[0], (ast.In, ast.NotIn)):
            right += node.comparators
    for node in ast.walk(tree):
        if isinstance(node, ast.Call) and isinstance(node.func, ast.Name) and node.func.id == "set":
            if node not in right:
                yield "L24 set"


def look_at_keywords(tree):
    """L22: keywords only where they are listed, and never at a method."""
    listed = {"sorted": ("key", "reverse"), "min": ("key", "default"), "max": ("key", "default"),
              "sum": ("start",), "enumerate": ("start",), "zip": ("strict",)}
    for node in ast.walk(tree):
        if isinstance(node, ast.Call):
            name = node.func.id if isinstance(node.func, ast.Name) else ""
            if any(keyword.arg not in listed.get(name, ()) for keyword in node.keywords):
                yield "L22 keyword"
            if name == "isinstance" and not all(isinstance(part, (ast.Name, ast.Tuple)) for part in node.args[1:]):
                yield "L22 isinstance"
            if any(isinstance(part, ast.Name) and part.id in OWN_NAMES for part in node.args) and name != "isinstance":
                yield "L22 kept"


def walked_on_the_spot(tree):
    found = []
    for node in ast.walk(tree):
        if isinstance(node, (ast.For, ast.comprehension)):
            found.append(node.iter)
        if isinstance(node, ast.Call) and isinstance(node.func, ast.Name) and node.args:
            if node.func.id in WALKERS:
                found.append(node.args[0])
    return found


def names_defined(tree):
    names = set()
    for node in ast.walk(tree):
        if isinstance(node, (ast.FunctionDef, ast.ClassDef)):
            names.add(node.name)
        if isinstance(node, ast.arg):
            names.add(node.arg)
        if isinstance(node, ast.alias):
            names.add(node.name)
        if isinstance(node, ast.Name) and isinstance(node.ctx, ast.Store):
            names.add(node.id)
        if isinstance(node, ast.ExceptHandler) and node.name:
            names.add(node.name)
    return names


def methods_in(tree):
    return [part.name for node in tree.body if isinstance(node, ast.ClassDef)
            for part in node.body if isinstance(part, ast.FunctionDef)]


def faults_of(text, methods):
    tree = ast.parse(text)
    faults = list(look_at_signs(text)) + list(look_at_top(tree)) + list(look_at_defs(tree))
    faults += list(look_at_sets(tree)) + list(look_at_keywords(tree))
    return faults + list(look_at_steps(tree)) + list(look_at_names(tree, methods, names_defined(tree)))


def package_texts():
    return {path.name: path.read_text(encoding="utf-8") for path in sorted(PACKAGE.glob("*.py"))}


class Language(unittest.TestCase):
    def test_nothing_but_plain_files_lies_in_the_package(self):
        for path in PACKAGE.iterdir():
            if path.name != "__pycache__":
                self.assertTrue(path.is_file() and re.fullmatch(r"[a-z0-9_]+\.py", path.name), path.name)
                self.assertFalse(path.name.startswith("test"), path.name)
                self.assertFalse(path.stem != "__init__" and hasattr(builtins, path.stem), path.name)

    def test_each_file_keeps_to_the_rules(self):
        texts = package_texts()
        methods = [name for text in texts.values() for name in methods_in(ast.parse(text))]
        for name, text in texts.items():
            self.assertEqual(faults_of(text, methods), [], name)

    def test_imports_name_the_defining_file_and_go_one_way(self):
        trees = {name[:-3]: ast.parse(text) for name, text in package_texts().items()}
        draws = {name: {} for name in trees}
        for name, tree in trees.items():
            for node in tree.body:
                if isinstance(node, ast.ImportFrom):
                    draws[name][node.module.split(".")[1]] = [alias.name for alias in node.names]
        for name, drawn in draws.items():
            for source, names in drawn.items():
                tops = {part.name for part in trees[source].body if isinstance(part, (ast.FunctionDef, ast.ClassDef))}
                self.assertLessEqual(set(names), tops, name)
        left = dict(draws)
        while left:
            free = [name for name, drawn in left.items() if not set(drawn) & set(left)]
            self.assertTrue(free, "files draw from one another: " + ", ".join(left))
            left = {name: drawn for name, drawn in left.items() if name not in free}

    def test_no_name_is_a_method_here_and_a_value_there(self):
        methods, values = set(), set()
        for text in package_texts().values():
            tree = ast.parse(text)
            methods |= set(methods_in(tree))
            values |= {node.attr for node in ast.walk(tree)
                       if isinstance(node, ast.Attribute) and isinstance(node.ctx, ast.Store)}
        self.assertEqual(methods & values, set())

    def test_the_looks_see_what_is_wrong(self):
        wrong = [
            "import os", "from os import path", "from .errors import NoText", "from flips.errors import *",
            "x = 1\nx = 2", "print(1)", "x = 1.5", "x = [i for i in range(3)]", "def f(*a):\n    return a",
            "def f(n):\n    return 2 ** n", "def f(n):\n    return n / 2", "def f(sum):\n    return sum",
            "def f(a):\n    return type(a)", "def f(a):\n    return a.format(1)", "def f(a):\n    return a is a",
            "def f(a):\n    return {b for b in a}", "def f(a):\n    return any(b for b in a)",
            "def f(a):\n    b = range(a)\n    return b", "def f(a):\n    a = b = 1\n    return a + b",
            "def f(a):\n    return [b for c in a for b in c]", "def f(a):\n    return a.sort()",
            "def f():\n    try:\n        f()\n    except Exception:\n        pass", "def f():\n    return chr(1)",
            "def _f():\n    return 1", "class A:\n    x = 1", "class A(int, str):\n    pass",
            "def f(a: int):\n    return a",
            "def f():\n" + "    pass\n" * 40, "# " + "x" * 120, "# an enum", "x = '\u00e4'", "def f():\n    return '%'",
            "def f():\n    assert True", "def f():\n    with f():\n        pass", "def f():\n    return set([1])",
            "def f(a):\n    return sorted(set(a), reverse=True)", "def f(a):\n    return [b for b in set(a)]",
            "def f(a):\n    b = a.items()\n    return b", "def f(a):\n    return f(len)",
            "def f(a):\n    return a.split(sep=a)",
            "def f(a):\n    for b in a:\n        pass\n    else:\n        pass", "def f():\n    return unknown",
        ]
        for text in wrong:
            self.assertNotEqual(faults_of(text, []), [], text)


if __name__ == "__main__":
    unittest.main()
