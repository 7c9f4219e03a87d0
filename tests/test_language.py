"""Holds the package's files against those rules of the language document that can be seen in a file."""

import ast
import builtins
import pathlib
import re

from tests.helper import Case

PACKAGE = pathlib.Path(__file__).resolve().parent.parent / "fleetpath"
FILES = sorted(PACKAGE.rglob("*.py"))

STATEMENTS = (
    ast.Assign, ast.AugAssign, ast.If, ast.While, ast.For, ast.Return, ast.Break, ast.Continue, ast.Pass,
    ast.Raise, ast.Try, ast.Expr, ast.FunctionDef, ast.ClassDef, ast.ImportFrom,
)
EXPRESSIONS = (
    ast.Constant, ast.List, ast.Tuple, ast.Dict, ast.BinOp, ast.UnaryOp, ast.BoolOp, ast.Compare, ast.IfExp,
    ast.Call, ast.Attribute, ast.Subscript, ast.Slice, ast.ListComp, ast.JoinedStr, ast.FormattedValue,
    ast.Name, ast.Lambda, ast.Set,
)
ERRORS = """Exception ValueError TypeError KeyError IndexError LookupError ZeroDivisionError ArithmeticError
    OverflowError RuntimeError NotImplementedError""".split()
OWN_NAMES = """len range enumerate zip min max sum abs sorted reversed int str bool list tuple dict set frozenset
    isinstance ord repr any all divmod StopIteration AttributeError""".split() + ERRORS
METHODS = """append clear copy count endswith extend find get index insert isalnum isalpha isdigit islower isspace
    isupper items join keys ljust lower lstrip partition pop remove replace reverse rfind rjust rpartition rsplit
    rstrip setdefault split splitlines startswith strip update upper values zfill bit_length""".split()
TWO_UNDERSCORES = "__init__ __eq__ __repr__ __str__ __len__".split()
NOT_NAMED = """register mro elements open input version_info with_traceback add_note format format_map attrgetter
    methodcaller super type vars""".split()
NOT_WRITTEN = re.compile(
    r"\b(type|typing|typing_extensions|enum|Enum|IntEnum|StrEnum|Flag|IntFlag|Generic|Protocol|ABC|ABCMeta"
    r"|namedtuple|NamedTuple|TypedDict|TYPE_CHECKING|abstractmethod)\b|dataclass|overload|contextmanager"
)
PLAIN_WORD = re.compile(r"^[A-Za-z][A-Za-z0-9_]*$")


def tree_of(path):
    return ast.parse(path.read_text())


def functions_of(tree):
    return [node for node in ast.walk(tree) if isinstance(node, ast.FunctionDef)]


def classes_of(tree):
    return [node for node in ast.walk(tree) if isinstance(node, ast.ClassDef)]


def imports_of(tree):
    return [node for node in ast.walk(tree) if isinstance(node, ast.ImportFrom)]


def imported(tree):
    return [alias.name for node in imports_of(tree) for alias in node.names]


def bound_names(tree):
    """Every name that a file gives a meaning: parameters, targets, functions, classes."""
    names = [node.arg for node in ast.walk(tree) if isinstance(node, ast.arg)]
    names += [node.id for node in ast.walk(tree) if isinstance(node, ast.Name) and isinstance(node.ctx, ast.Store)]
    names += [node.name for node in functions_of(tree) + classes_of(tree)]
    return names


def methods_of(tree):
    return [part.name for node in classes_of(tree) for part in node.body if isinstance(part, ast.FunctionDef)]


def values_of(tree):
    return [
        node.attr for node in ast.walk(tree)
        if isinstance(node, ast.Attribute) and isinstance(node.ctx, ast.Store)
    ]


def with_parents(tree):
    """Every node but the tree itself, with the node that it stands in."""
    return [(node, parent) for parent in ast.walk(tree) for node in ast.iter_child_nodes(parent)]


def called(node):
    """The name of the function or the method that a node calls, or None."""
    if not isinstance(node, ast.Call):
        return None
    return node.func.id if isinstance(node.func, ast.Name) else getattr(node.func, "attr", None)


def is_walked(node, parent):
    """Whether a node stands where something is walked on the spot."""
    if isinstance(parent, (ast.For, ast.comprehension)):
        return parent.iter is node
    if called(parent) in ("list", "tuple", "dict", "sorted", "sum", "any", "all", "enumerate", "zip", "min", "max"):
        return parent.args[0] is node
    return called(parent) == "join" and isinstance(parent.func.value, ast.Constant)


class Functions(ast.NodeTransformer):
    """Puts a plain value in the place of each function that was defined above."""

    def __init__(self, above):
        self.above = above

    def visit_Name(self, node):
        return ast.Constant(node.id) if node.id in self.above else node


class Language(Case):
    def test_files_and_signs(self):
        for path in PACKAGE.rglob("*"):
            if path.name != "__pycache__" and path.suffix != ".pyc":
                self.assertRegex(path.name, r"^[a-z_][a-z0-9_]*\.py$")
        for path in FILES:
            with self.subTest(file=path.name):
                self.assertRegex(path.read_text(), r"\A[ -~\n]*\Z")
                self.assertIsNone(NOT_WRITTEN.search(path.read_text()))

    def test_size(self):
        for path in FILES:
            with self.subTest(file=path.name):
                tree = tree_of(path)
                rows = path.read_text().split("\n")
                self.assertLessEqual(len(rows), 400)
                self.assertLessEqual(max(map(len, rows)), 120)
                for node in functions_of(tree):
                    self.assertLessEqual(node.end_lineno - node.lineno + 1, 40)

    def test_statements_and_expressions(self):
        for path in FILES:
            with self.subTest(file=path.name):
                tree = tree_of(path)
                for node in ast.walk(tree):
                    if isinstance(node, ast.stmt):
                        self.assertIsInstance(node, STATEMENTS)
                    if isinstance(node, ast.expr):
                        self.assertIsInstance(node, EXPRESSIONS)
                    if isinstance(node, (ast.For, ast.While)):
                        self.assertEqual(node.orelse, [])
                    if isinstance(node, ast.Assign):
                        self.assertEqual(len(node.targets), 1)
                        self.assertIsInstance(node.targets[0], (ast.Name, ast.Attribute, ast.Subscript))
                    if isinstance(node, ast.Expr) and node is not tree.body[0]:
                        self.assertIsInstance(node.value, ast.Call)
                    if isinstance(node, (ast.Div, ast.Starred)):
                        self.fail("a sign that is not used")
                    if isinstance(node, ast.ListComp):
                        self.assertEqual(len(node.generators), 1)
                        self.assertLessEqual(len(node.generators[0].ifs), 1)
                    if isinstance(node, ast.FormattedValue):
                        self.assertIsInstance(node.value, ast.Name)
                        self.assertIsNone(node.format_spec)

    def test_plain_values_at_the_top(self):
        for path in FILES:
            with self.subTest(file=path.name):
                tree = tree_of(path)
                above = []
                for node in tree.body:
                    if isinstance(node, ast.Assign):
                        ast.literal_eval(Functions(above).visit(node.value))
                    elif isinstance(node, ast.FunctionDef):
                        above.append(node.name)
                    elif node is not tree.body[0]:
                        self.assertIsInstance(node, (ast.ImportFrom, ast.FunctionDef, ast.ClassDef))

    def test_functions_and_classes(self):
        for path in FILES:
            with self.subTest(file=path.name):
                tree = tree_of(path)
                for node in functions_of(tree):
                    self.assertEqual(node.decorator_list, [])
                    self.assertIsNone(node.returns)
                    rest = (node.args.vararg, node.args.kwarg, node.args.kwonlyargs, node.args.posonlyargs)
                    self.assertEqual(rest, (None, None, [], []))
                for node in classes_of(tree):
                    self.assertEqual((node.decorator_list, node.keywords), ([], []))
                    self.assertLessEqual(len(node.bases), 1)
                    for part in node.body:
                        self.assertIsInstance(part, (ast.FunctionDef, ast.Pass))
                    self.assertIn(node, tree.body)

    def test_names(self):
        for path in FILES:
            with self.subTest(file=path.name):
                tree = tree_of(path)
                top = imported(tree) + [node.name for node in classes_of(tree)]
                for name in bound_names(tree) + values_of(tree):
                    if name not in TWO_UNDERSCORES:
                        self.assertRegex(name, PLAIN_WORD)
                    self.assertNotIn(name, NOT_NAMED)
                for node in ast.walk(tree):
                    if isinstance(node, ast.arg) or isinstance(node, ast.Name) and isinstance(node.ctx, ast.Store):
                        name = node.arg if isinstance(node, ast.arg) else node.id
                        self.assertNotIn(name, top)
                        self.assertFalse(hasattr(builtins, name), name)

    def test_names_of_pythons_own(self):
        for path in FILES:
            with self.subTest(file=path.name):
                tree = tree_of(path)
                known = OWN_NAMES + bound_names(tree) + imported(tree)
                for node in ast.walk(tree):
                    if isinstance(node, ast.Name):
                        self.assertIn(node.id, known)

    def test_methods_and_values(self):
        trees = [tree_of(path) for path in FILES]
        methods = [name for tree in trees for name in methods_of(tree)]
        values = [name for tree in trees for name in values_of(tree)]
        self.assertEqual(sorted(set(methods) & set(values)), [])
        for path in FILES:
            with self.subTest(file=path.name):
                tree = tree_of(path)
                for node in ast.walk(tree):
                    if isinstance(node, ast.Attribute):
                        self.assertIn(node.attr, METHODS + methods + values)

    def test_each_name_once_at_the_top(self):
        for path in FILES:
            with self.subTest(file=path.name):
                tree = tree_of(path)
                names = imported(tree) + [node.name for node in tree.body if hasattr(node, "name")]
                names += [node.targets[0].id for node in tree.body if isinstance(node, ast.Assign)]
                self.assertEqual(len(set(names)), len(names))

    def test_lists_and_dicts_of_the_top_are_only_read(self):
        for path in FILES:
            with self.subTest(file=path.name):
                tree = tree_of(path)
                kept = [node.targets[0].id for node in tree.body
                        if isinstance(node, ast.Assign) and isinstance(node.value, (ast.List, ast.Dict))]
                for node, parent in with_parents(tree):
                    if isinstance(node, ast.Name) and node.id in kept and isinstance(node.ctx, ast.Load):
                        read = isinstance(parent, ast.Subscript) and isinstance(parent.ctx, ast.Load)
                        asked = isinstance(parent, ast.Compare) or called(parent) == "len"
                        self.assertTrue(read or asked or is_walked(node, parent), node.lineno)
                for node in tree.body:
                    if isinstance(node, ast.Assign) and isinstance(node.value, (ast.List, ast.Dict)):
                        inner = [part for part in ast.walk(node.value) if part is not node.value]
                        self.assertFalse([part for part in inner if isinstance(part, (ast.List, ast.Dict))])

    def test_walked_at_once(self):
        walked = ("zip", "enumerate", "reversed", "range", "items", "keys", "values")
        for path in FILES:
            with self.subTest(file=path.name):
                for node, parent in with_parents(tree_of(path)):
                    if called(node) in walked:
                        self.assertTrue(is_walked(node, parent), node.lineno)

    def test_sets(self):
        for path in FILES:
            with self.subTest(file=path.name):
                for node, parent in with_parents(tree_of(path)):
                    self.assertNotIsInstance(node, ast.Set)
                    if called(node) in ("set", "frozenset"):
                        asked = isinstance(parent, (ast.Compare, ast.BinOp)) or called(parent) in ("sorted", "len")
                        self.assertTrue(asked, node.lineno)

    def test_keywords(self):
        allowed = {
            "sorted": ("key", "reverse"), "min": ("key", "default"), "max": ("key", "default"), "sum": ("start",),
            "enumerate": ("start",), "zip": ("strict",),
        }
        for path in FILES:
            with self.subTest(file=path.name):
                for node in ast.walk(tree_of(path)):
                    for keyword in node.keywords if isinstance(node, ast.Call) else []:
                        self.assertIn(keyword.arg, allowed.get(called(node), ()))

    def test_where_classes_stand(self):
        classes = [node.name for path in FILES for node in classes_of(tree_of(path))]
        self.assertEqual(len(set(classes)), len(classes))
        for path in FILES:
            with self.subTest(file=path.name):
                for node, parent in with_parents(tree_of(path)):
                    if isinstance(node, ast.Name) and node.id in classes:
                        made = isinstance(parent, ast.Call) and parent.func is node
                        self.assertTrue(made or isinstance(parent, (ast.ClassDef, ast.ExceptHandler)), node.lineno)

    def test_texts_and_numbers(self):
        for path in FILES:
            with self.subTest(file=path.name):
                for node in ast.walk(tree_of(path)):
                    if isinstance(node, ast.Constant) and isinstance(node.value, str):
                        self.assertNotIn("%", node.value)
                    self.assertNotIsInstance(node, (ast.Pow, ast.Global, ast.Nonlocal))

    def test_values_of_objects(self):
        banned = """items keys values pop update append clear extend insert remove reverse setdefault sort args encode
            format""".split()
        for path in FILES:
            with self.subTest(file=path.name):
                for name in values_of(tree_of(path)):
                    self.assertNotIn(name, banned)

    def test_errors_that_are_taken(self):
        own = [node.name for path in FILES for node in classes_of(tree_of(path))]
        for path in FILES:
            with self.subTest(file=path.name):
                for node in ast.walk(tree_of(path)):
                    if isinstance(node, ast.ExceptHandler):
                        self.assertIn(node.type.id, own)

    def test_is_and_errors(self):
        for path in FILES:
            with self.subTest(file=path.name):
                tree = tree_of(path)
                for node in ast.walk(tree):
                    if isinstance(node, ast.Compare):
                        for sign, right in zip(node.ops, node.comparators):
                            if isinstance(sign, (ast.Is, ast.IsNot)):
                                self.assertIsInstance(right, ast.Constant)
                                self.assertIn(right.value, (None, True, False))
                    if isinstance(node, ast.Raise):
                        self.assertIsInstance(node.exc, ast.Call)

    def test_imports(self):
        drawn = {}
        for path in FILES:
            with self.subTest(file=path.name):
                tree = tree_of(path)
                drawn[path.stem] = [node.module.removeprefix("fleetpath.") for node in imports_of(tree)]
                for node in imports_of(tree):
                    self.assertEqual(node.level, 0)
                    source = tree_of(PACKAGE / (node.module.removeprefix("fleetpath.") + ".py"))
                    for alias in node.names:
                        self.assertIn(alias.name, bound_names(source))
                        self.assertIsNone(alias.asname)
        self.assert_no_circle(drawn)

    def assert_no_circle(self, drawn):
        while drawn:
            free = [name for name in drawn if not any(other in drawn for other in drawn[name])]
            self.assertNotEqual(free, [], drawn)
            drawn = {name: others for name, others in drawn.items() if name not in free}
