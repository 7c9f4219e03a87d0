"""Holds the package's files against those rules of the language document that can be seen in a file."""

import ast
import builtins
import pathlib
import re

from tests.helper import Case

PACKAGE = pathlib.Path(__file__).resolve().parent.parent / "fleetpath"
FILES = sorted(PACKAGE.rglob("*.py"))

STATEMENTS = (
    ast.Assign, ast.AugAssign, ast.If, ast.While, ast.For, ast.Return, ast.Break, ast.Continue, ast.Pass,
    ast.Raise, ast.Try, ast.Expr, ast.FunctionDef, ast.ClassDef, ast.ImportFrom,
)
EXPRESSIONS = (
    ast.Constant, ast.List, ast.Tuple, ast.Dict, ast.BinOp, ast.UnaryOp, ast.BoolOp, ast.Compare, ast.IfExp,
    ast.Call, ast.Attribute, ast.Subscript, ast.Slice, ast.ListComp, ast.JoinedStr, ast.FormattedValue,
    ast.Name, ast.Lambda, ast.Set,
)
ERRORS = """Exception ValueError TypeError KeyError IndexError LookupError ZeroDivisionError ArithmeticError
    OverflowError RuntimeError NotImplementedError""".split()
OWN_NAMES = """len range enumerate zip min max sum abs sorted reversed int str bool list tuple dict set frozenset
    isinstance ord repr any all divmod StopIteration AttributeError""".split() + ERRORS
METHODS = """append clear copy count endswith extend find get index insert isalnum isalpha isdigit islower isspace
    isupper items join keys ljust lower lstrip partition pop remove replace reverse rfind rjust rpartition rsplit
    rstrip setdefault split splitlines startswith strip update upper values zfill bit_length""".split()
TWO_UNDERSCORES = "__init__ __eq__ __repr__ __str__ __len__".split()
NOT_NAMED = """register mro elements open input version_info with_traceback add_note format format_map attrgetter
    methodcaller super type vars""".split()
NOT_WRITTEN = re.compile(
    r"\b(type|typing|typing_extensions|enum|Enum|IntEnum|StrEnum|Flag|IntFlag|Generic|Protocol|ABC|ABCMeta"
    r"|namedtuple|NamedTuple|TypedDict|TYPE_CHECKING|abstractmethod)\b|dataclass|overload|contextmanager"
)
PLAIN_WORD = re.compile(r"^[A-Za-z][A-Za-z0-9_]*$")


def tree_of(path):
    return ast.parse(path.read_text())


def functions_of(tree):
    return [node for node in ast.walk(tree) if isinstance(node, ast.FunctionDef)]


def classes_of(tree):
    return [node for node in ast.walk(tree) if isinstance(node, ast.ClassDef)]


def imports_of(tree):
    return [node for node in ast.walk(tree) if isinstance(node, ast.ImportFrom)]


def imported(tree):
    return [alias.name for node in imports_of(tree) for alias in node.names]


def bound_names(tree):
    """Every name that a file gives a meaning: parameters, targets, functions, classes."""
    names = [node.arg for node in ast.walk(tree) if isinstance(node, ast.arg)]
    names += [node.id for node in ast.walk(tree) if isinstance(node, ast.Name) and isinstance(node.ctx, ast.Store)]
    names += [node.name for node in functions_of(tree) + classes_of(tree)]
    return names


def methods_of(tree):
    return [part.name for node in classes_of(tree) for part in node.body if isinstance(part, ast.FunctionDef)]


def values_of(tree):
    return [
        node.attr for node in ast.walk(tree)
        if isinstance(node, ast.Attribute) and isinstance(node.ctx, ast.Store)
    ]


class Language(Case):
    def test_files_and_signs(self):
        for path in PACKAGE.rglob("*"):
            if path.name != "__pycache__" and path.suffix != ".pyc":
                self.assertRegex(path.name, r"^[a-z_][a-z0-9_]*\.py$")
        for path in FILES:
            with self.subTest(file=path.name):
                self.assertRegex(path.read_text(), r"\A[ -~\n]*\Z")
                self.assertIsNone(NOT_WRITTEN.search(path.read_text()))

    def test_size(self):
        for path in FILES:
            with self.subTest(file=path.name):
                tree = tree_of(path)
                rows = path.read_text().split("\n")
                self.assertLessEqual(len(rows), 400)
                self.assertLessEqual(max(map(len, rows)), 120)
                for node in functions_of(tree):
                    self.assertLessEqual(node.end_lineno - node.lineno + 1, 40)

    def test_statements_and_expressions(self):
        for path in FILES:
            with self.subTest(file=path.name):
                tree = tree_of(path)
                for node in ast.walk(tree):
                    if isinstance(node, ast.stmt):
                        self.assertIsInstance(node, STATEMENTS)
                    if isinstance(node, ast.expr):
                        self.assertIsInstance(node, EXPRESSIONS)
                    if isinstance(node, (ast.For, ast.While)):
                        self.assertEqual(node.orelse, [])
                    if isinstance(node, ast.Assign):
                        self.assertEqual(len(node.targets), 1)
                        self.assertIsInstance(node.targets[0], (ast.Name, ast.Attribute, ast.Subscript))
                    if isinstance(node, ast.Expr) and node is not tree.body[0]:
                        self.assertIsInstance(node.value, ast.Call)
                    if isinstance(node, (ast.Div, ast.Starred)):
                        self.fail("a sign that is not used")
                    if isinstance(node, ast.ListComp):
                        self.assertEqual(len(node.generators), 1)
                        self.assertLessEqual(len(node.generators[0].ifs), 1)
                    if isinstance(node, ast.FormattedValue):
                        self.assertIsInstance(node.value, ast.Name)
                        self.assertIsNone(node.format_spec)

    def test_plain_values_at_the_top(self):
        for path in FILES:
            with self.subTest(file=path.name):
                tree = tree_of(path)
                for node in tree.body:
                    if isinstance(node, ast.Assign):
                        ast.literal_eval(node.value)
                    elif node is not tree.body[0]:
                        self.assertIsInstance(node, (ast.ImportFrom, ast.FunctionDef, ast.ClassDef))

    def test_functions_and_classes(self):
        for path in FILES:
            with self.subTest(file=path.name):
                tree = tree_of(path)
                for node in functions_of(tree):
                    self.assertEqual(node.decorator_list, [])
                    self.assertIsNone(node.returns)
                    rest = (node.args.vararg, node.args.kwarg, node.args.kwonlyargs, node.args.posonlyargs)
                    self.assertEqual(rest, (None, None, [], []))
                for node in classes_of(tree):
                    self.assertEqual((node.decorator_list, node.keywords), ([], []))
                    self.assertLessEqual(len(node.bases), 1)
                    for part in node.body:
                        self.assertIsInstance(part, (ast.FunctionDef, ast.Pass))
                    self.assertIn(node, tree.body)

    def test_names(self):
        for path in FILES:
            with self.subTest(file=path.name):
                tree = tree_of(path)
                top = imported(tree) + [node.name for node in classes_of(tree)]
                for name in bound_names(tree) + values_of(tree):
                    if name not in TWO_UNDERSCORES:
                        self.assertRegex(name, PLAIN_WORD)
                    self.assertNotIn(name, NOT_NAMED)
                for node in ast.walk(tree):
                    if isinstance(node, ast.arg) or isinstance(node, ast.Name) and isinstance(node.ctx, ast.Store):
                        name = node.arg if isinstance(node, ast.arg) else node.id
                        self.assertNotIn(name, top)
                        self.assertFalse(hasattr(builtins, name), name)

    def test_names_of_pythons_own(self):
        for path in FILES:
            with self.subTest(file=path.name):
                tree = tree_of(path)
                known = OWN_NAMES + bound_names(tree) + imported(tree)
                for node in ast.walk(tree):
                    if isinstance(node, ast.Name):
                        self.assertIn(node.id, known)

    def test_methods_and_values(self):
        trees = [tree_of(path) for path in FILES]
        methods = [name for tree in trees for name in methods_of(tree)]
        values = [name for tree in trees for name in values_of(tree)]
        self.assertEqual(sorted(set(methods) & set(values)), [])
        for path in FILES:
            with self.subTest(file=path.name):
                tree = tree_of(path)
                for node in ast.walk(tree):
                    if isinstance(node, ast.Attribute):
                        self.assertIn(node.attr, METHODS + methods + values)

    def test_is_and_errors(self):
        for path in FILES:
            with self.subTest(file=path.name):
                tree = tree_of(path)
                for node in ast.walk(tree):
                    if isinstance(node, ast.Compare):
                        for sign, right in zip(node.ops, node.comparators):
                            if isinstance(sign, (ast.Is, ast.IsNot)):
                                self.assertIsInstance(right, ast.Constant)
                                self.assertIn(right.value, (None, True, False))
                    if isinstance(node, ast.Raise):
                        self.assertIsInstance(node.exc, ast.Call)

    def test_imports(self):
        drawn = {}
        for path in FILES:
            with self.subTest(file=path.name):
                tree = tree_of(path)
                drawn[path.stem] = [node.module.removeprefix("fleetpath.") for node in imports_of(tree)]
                for node in imports_of(tree):
                    self.assertEqual(node.level, 0)
                    source = tree_of(PACKAGE / (node.module.removeprefix("fleetpath.") + ".py"))
                    for alias in node.names:
                        self.assertIn(alias.name, bound_names(source))
                        self.assertIsNone(alias.asname)
        self.assert_no_circle(drawn)

    def assert_no_circle(self, drawn):
        while drawn:
            free = [name for name in drawn if not any(other in drawn for other in drawn[name])]
            self.assertNotEqual(free, [], drawn)
            drawn = {name: others for name, others in drawn.items() if name not in free}
