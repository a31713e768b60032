"""Holds the package's files to those rules of LANGUAGE.md that can be seen row by row."""

import ast
import pathlib
import re
import unittest

FOLDER = pathlib.Path(__file__).resolve().parent.parent / "fewboxes"

NODES = """
Module FunctionDef arguments arg ClassDef Return Assign AugAssign For While If Raise Try ExceptHandler ImportFrom alias
Expr Pass Break Continue BoolOp And Or BinOp Add Sub Mult FloorDiv Mod Pow LShift RShift BitOr BitXor BitAnd UnaryOp
Invert Not USub Lambda IfExp Dict List Tuple Set ListComp comprehension Compare Eq NotEq Lt LtE Gt GtE Is IsNot In NotIn
Call keyword JoinedStr FormattedValue Constant Attribute Subscript Slice Name Load Store
""".split()
OWN_NAMES = """
len range enumerate zip min max sum abs sorted reversed int str bool list tuple dict set frozenset isinstance ord repr
any all divmod Exception ValueError TypeError KeyError IndexError LookupError ZeroDivisionError ArithmeticError
OverflowError RuntimeError NotImplementedError StopIteration
""".split()
METHODS = """
append clear copy count endswith extend find get index insert isalnum isalpha isdigit islower isspace isupper items join
keys ljust lower lstrip partition pop remove replace reverse rfind rjust rpartition rsplit rstrip setdefault split
splitlines startswith strip update upper values zfill bit_length
""".split()
WORDS = """
type typing typing_extensions enum Enum IntEnum StrEnum Flag IntFlag Generic Protocol ABC ABCMeta namedtuple NamedTuple
TypedDict TYPE_CHECKING abstractmethod
""".split()


def sign_faults(source):
    faults = []
    for number, line in enumerate(source.split("\n"), start=1):
        if re.search("[^ -~]", line):
            faults.append(("L14", number))
        if len(line) > 120:
            faults.append(("L10", number))
        if set(re.findall(r"\w+", line)) & set(WORDS) or re.search("dataclass|overload|contextmanager", line):
            faults.append(("L17", number))
    if len(source.split("\n")) > 401:
        faults.append(("L10", 401))
    return faults


def bound_names(tree):
    names = set()
    for node in ast.walk(tree):
        if isinstance(node, (ast.FunctionDef, ast.ClassDef)):
            names.add(node.name)
        elif isinstance(node, ast.arg):
            names.add(node.arg)
        elif isinstance(node, ast.alias):
            names.add(node.asname or node.name)
        elif isinstance(node, ast.Name) and isinstance(node.ctx, ast.Store):
            names.add(node.id)
        elif isinstance(node, ast.ExceptHandler) and node.name:
            names.add(node.name)
    return names


def node_rule(node, bound, methods):
    """The number of the rule that a node breaks, or None."""
    if type(node).__name__ not in NODES:
        return "L6 or L7"
    if isinstance(node, ast.Assign) and len(node.targets) != 1:
        return "L6"
    if isinstance(node, (ast.For, ast.While)) and node.orelse or isinstance(node, ast.Try) and node.finalbody:
        return "L6"
    if isinstance(node, ast.ExceptHandler) and node.type is None:
        return "L6"
    if isinstance(node, ast.Expr) and not isinstance(node.value, (ast.Call, ast.Constant)):
        return "L6"
    if isinstance(node, ast.Constant) and isinstance(node.value, (float, complex, bytes)):
        return "L7"
    if isinstance(node, ast.FormattedValue) and (not isinstance(node.value, ast.Name) or node.format_spec):
        return "L7"
    if isinstance(node, ast.FunctionDef) and (node.decorator_list or node.args.kwonlyargs):
        return "L4"
    if isinstance(node, ast.arguments) and (node.vararg or node.kwarg or node.posonlyargs):
        return "L4"
    if isinstance(node, ast.FunctionDef) and node.end_lineno - node.lineno >= 40:
        return "L10"
    if isinstance(node, ast.ClassDef) and (node.decorator_list or node.keywords or len(node.bases) > 1):
        return "L5"
    if isinstance(node, ast.ImportFrom) and (node.level or not node.module.startswith("fewboxes.")):
        return "L2"
    if isinstance(node, ast.Compare) and any(isinstance(sign, (ast.Is, ast.IsNot)) for sign in node.ops):
        if not isinstance(node.comparators[-1], ast.Constant):
            return "L20"
    if isinstance(node, ast.Name) and node.id not in bound and node.id not in OWN_NAMES:
        return "L8"
    if isinstance(node, ast.Call) and isinstance(node.func, ast.Attribute):
        if node.func.attr not in METHODS and node.func.attr not in methods:
            return "L25"
    return None


def renamed(tree):
    """Those imports and classes of a file that a parameter or a local of it is called like."""
    taken = {alias.name for node in tree.body if isinstance(node, ast.ImportFrom) for alias in node.names}
    taken |= {node.name for node in tree.body if isinstance(node, ast.ClassDef)}
    own = [node.arg for node in ast.walk(tree) if isinstance(node, ast.arg)]
    own += [node.id for node in ast.walk(tree) if isinstance(node, ast.Name) and isinstance(node.ctx, ast.Store)]
    return sorted(taken & set(own))


def faults_of(source):
    tree = ast.parse(source)
    bound = bound_names(tree)
    methods = [d.name for c in tree.body if isinstance(c, ast.ClassDef) for d in c.body if hasattr(d, "name")]
    faults = sign_faults(source)
    for node in ast.walk(tree):
        rule = node_rule(node, bound, methods)
        if rule:
            faults.append((rule, getattr(node, "lineno", None)))
    for node in tree.body:
        if not isinstance(node, (ast.Expr, ast.ImportFrom, ast.FunctionDef, ast.ClassDef, ast.Assign)):
            faults.append(("L3", node.lineno))
    faults.extend(("L15", name) for name in renamed(tree))
    for name in bound:
        if not re.fullmatch("[A-Za-z][A-Za-z0-9_]*", name) and not re.fullmatch("__[a-z]+__", name):
            faults.append(("L12", name))
        if name in OWN_NAMES:
            faults.append(("L15", name))
    return faults


def drawn_from(path):
    """The modules that a file draws from, each with the names that it draws."""
    tree = ast.parse(path.read_text(encoding="utf-8"))
    return {node.module: [alias.name for alias in node.names] for node in tree.body if isinstance(node, ast.ImportFrom)}


class LanguageTest(unittest.TestCase):
    def test_files(self):
        names = [path.name for path in FOLDER.iterdir() if path.name != "__pycache__"]
        self.assertIn("__init__.py", names)
        for name in names:
            self.assertRegex(name, r"\A[a-z0-9_]+\.py\Z")

    def test_package(self):
        for path in sorted(FOLDER.glob("*.py")):
            with self.subTest(path.name):
                self.assertEqual(faults_of(path.read_text(encoding="utf-8")), [])

    def test_no_two_files_draw_from_one_another(self):
        left = {f"fewboxes.{path.stem}": drawn_from(path) for path in FOLDER.glob("*.py")}
        while left:
            free = [name for name in left if not any(other in left for other in left[name])]
            self.assertNotEqual(free, [], f"in a ring: {sorted(left)}")
            for name in free:
                left.pop(name)

    def test_names_come_from_the_file_that_defines_them(self):
        for path in sorted(FOLDER.glob("*.py")):
            for module, names in drawn_from(path).items():
                tree = ast.parse((FOLDER / f"{module.split('.')[1]}.py").read_text(encoding="utf-8"))
                # but for what that file draws from others itself
                own = [node for node in tree.body if not isinstance(node, ast.ImportFrom)]
                self.assertLessEqual(set(names), bound_names(ast.Module(own, [])), (path.name, module))

    def test_faults_are_seen(self):
        for rule, source in (
            ("L2", "from os.path import join\n"),
            ("L3", "for x in [1]:\n    pass\n"),
            ("L4", "def f(*xs):\n    return 1\n"),
            ("L6", "def f(x):\n    a = b = x\n"),
            ("L6 or L7", "def f(x):\n    assert x\n"),
            ("L6 or L7", "def f(x):\n    return x / 2\n"),
            ("L6 or L7", "def f(x):\n    return all(y for y in x)\n"),
            ("L7", "X = 1.5\n"),
            ("L7", "def f(x):\n    return f'{x.y}'\n"),
            ("L8", "def f(x):\n    return hash(x)\n"),
            ("L10", "def f(x):\n" + "    x = 1\n" * 40),
            ("L12", "def f(x):\n    _y = x\n"),
            ("L14", "X = 1\t\n"),
            ("L15", "def f(max):\n    return 1\n"),
            ("L15", "from fewboxes.trees import leaves\ndef f(leaves):\n    return 1\n"),
            ("L17", "# some type\n"),
            ("L20", "def f(x, y):\n    return x is y\n"),
            ("L25", "def f(x):\n    return x.isnumeric()\n"),
        ):
            self.assertIn(rule, [fault[0] for fault in faults_of(source)], source)


if __name__ == "__main__":
    unittest.main()
