"""The rules of the language that can be seen in a file alone. The others are kept by eye."""

import ast
import builtins
import pathlib
import re
import unittest

PACKAGE = pathlib.Path(__file__).resolve().parent.parent / "lampyard"

# L6 and L7: what may stand in a file at all.
KINDS = set("""
    Module FunctionDef Lambda ClassDef arguments arg Return Assign AugAssign For While If Raise Try ExceptHandler
    ImportFrom alias Expr Pass Break Continue Name Attribute Subscript Slice Constant List Tuple Dict Set
    ListComp comprehension Call keyword BinOp UnaryOp BoolOp Compare IfExp JoinedStr FormattedValue Load Store
    Add Sub Mult FloorDiv Mod Pow BitAnd BitOr BitXor LShift RShift Invert USub UAdd Not And Or
    Eq NotEq Lt LtE Gt GtE Is IsNot In NotIn
""".split())

# L8, without chr (L27).
OWN_NAMES = set("""
    len range enumerate zip min max sum abs sorted reversed int str bool list tuple dict set frozenset isinstance
    ord repr any all divmod Exception ValueError TypeError KeyError IndexError LookupError ZeroDivisionError
    ArithmeticError OverflowError RuntimeError NotImplementedError AttributeError StopIteration
""".split())

# L25, and the two names that L26 adds.
OWN_METHODS = set("""
    append clear copy count endswith extend find get index insert isalnum isalpha isdigit islower isspace isupper
    items join keys ljust lower lstrip partition pop remove replace reverse rfind rjust rpartition rsplit rstrip
    setdefault split splitlines startswith strip update upper values zfill bit_length add discard
""".split())

# L5.
UNDERSCORED = {"__init__", "__eq__", "__repr__", "__str__", "__len__"}

# L23, without the methods.
WALKED = ("zip", "enumerate", "reversed", "range")
WALKERS = ("list", "tuple", "dict", "sorted", "sum", "any", "all", "enumerate", "zip", "min", "max")

# L17's last list.
WORDS = re.compile(
    r"\b(type|typing|typing_extensions|enum|Enum|IntEnum|StrEnum|Flag|IntFlag|Generic|Protocol|ABC|ABCMeta"
    r"|namedtuple|NamedTuple|TypedDict|TYPE_CHECKING|abstractmethod)\b|dataclass|overload|contextmanager"
)


def files():
    return sorted(path for path in PACKAGE.iterdir() if path.name != "__pycache__")


def parsed():
    return [(path.name, ast.parse(path.read_text("utf-8"))) for path in files()]


def nodes():
    return [(name, node) for name, tree in parsed() for node in ast.walk(tree)]


def name_of(node):
    """The name that a node reads or binds, if it has one."""
    for field in ("id", "attr", "arg", "name"):
        if isinstance(getattr(node, field, None), str):
            return getattr(node, field)
    return None


def called(node):
    """The name of the plain function or class that a node calls, if it calls one."""
    if isinstance(node, ast.Call) and isinstance(node.func, ast.Name):
        return node.func.id
    return None


def parts(node):
    """What the operators of an expression stand between."""
    if isinstance(node, ast.BinOp):
        return parts(node.left) + parts(node.right)
    return [node]


def placed_nodes():
    """Every node with the one that it stands in."""
    return [(name, node, above) for name, above in nodes() for node in ast.iter_child_nodes(above)]


def top_names(tree):
    names = [node.name for node in tree.body if isinstance(node, (ast.FunctionDef, ast.ClassDef))]
    return names + [node.targets[0].id for node in tree.body if isinstance(node, ast.Assign)]


def drawn_from(tree):
    return {node.module.partition(".")[2] for node in ast.walk(tree) if isinstance(node, ast.ImportFrom)}


class LanguageTest(unittest.TestCase):
    def test_the_package_holds_plain_files_alone(self):
        names = [path.name for path in files()]
        self.assertIn("__init__.py", names)
        for name in names:
            self.assertRegex(name, r"^([a-z][a-z0-9_]*|__init__|__main__)\.py$")

    def test_signs_and_sizes(self):
        for path in files():
            text = path.read_bytes().decode("utf-8")
            with self.subTest(file=path.name):
                self.assertRegex(text, r"\A[ -~\n]*\Z")
                self.assertIsNone(WORDS.search(text))
                self.assertLessEqual(len(text.splitlines()), 400)
                self.assertLessEqual(max(len(row) for row in text.splitlines()), 120)

    def test_statements_and_expressions(self):
        for name, node in nodes():
            with self.subTest(file=name, line=getattr(node, "lineno", 0)):
                self.assertIn(type(node).__name__, KINDS)
                self.assertEqual(getattr(node, "decorator_list", []), [])
                if isinstance(node, ast.FunctionDef):
                    self.assertLessEqual(node.end_lineno - node.lineno + 1, 40)
                if isinstance(node, ast.Constant):
                    self.assertIn(type(node.value), (int, str, bool, type(None)))
                    self.assertNotIn("%", str(node.value))
                if isinstance(node, ast.ListComp):
                    self.assertEqual(len(node.generators), 1)
                    self.assertLessEqual(len(node.generators[0].ifs), 1)
                if isinstance(node, ast.Assign):
                    self.assertEqual(len(node.targets), 1)
                if isinstance(node, (ast.For, ast.While)):
                    self.assertEqual(node.orelse, [])
                if isinstance(node, ast.Expr):
                    self.assertIsInstance(node.value, (ast.Call, ast.Constant))

    def test_names(self):
        for name, node in nodes():
            word = name_of(node)
            if word is None:
                continue
            with self.subTest(file=name, line=getattr(node, "lineno", 0), word=word):
                self.assertTrue(word in UNDERSCORED or not word.startswith("_"))
                if isinstance(node, ast.Name) and isinstance(node.ctx, ast.Load):
                    self.assertTrue(word in OWN_NAMES or not hasattr(builtins, word))
                elif isinstance(node, (ast.Name, ast.arg)):
                    self.assertFalse(hasattr(builtins, word))

    def test_methods_of_pythons_own_values(self):
        for name, node in nodes():
            if not isinstance(node, ast.Attribute) or node.attr in OWN_METHODS or node.attr in UNDERSCORED:
                continue
            with self.subTest(file=name, line=node.lineno, word=node.attr):
                for kind in (str, int, list, tuple, dict, set, bytes):
                    self.assertFalse(hasattr(kind, node.attr))

    def test_imports_draw_from_the_file_that_defines_the_name(self):
        defined = {name[:-3]: top_names(tree) for name, tree in parsed()}
        for name, node in nodes():
            if not isinstance(node, ast.ImportFrom):
                continue
            with self.subTest(file=name, line=node.lineno):
                self.assertEqual((node.level, node.col_offset), (0, 0))
                package, _, module = node.module.partition(".")
                self.assertEqual(package, "lampyard")
                for alias in node.names:
                    self.assertIn(alias.name, defined[module])

    def test_no_two_files_draw_from_one_another(self):
        left = {name[:-3]: drawn_from(tree) for name, tree in parsed()}
        while left:
            free = [name for name, drawn in left.items() if not drawn & set(left)]
            self.assertNotEqual(free, [])
            left = {name: drawn for name, drawn in left.items() if name not in free}

    def test_no_local_is_called_like_a_class_or_an_import_of_its_file(self):
        for name, tree in parsed():
            taken = {node.name for node in tree.body if isinstance(node, ast.ClassDef)}
            taken |= {alias.name for node in tree.body if isinstance(node, ast.ImportFrom) for alias in node.names}
            for node in ast.walk(tree):
                if isinstance(node, ast.arg) or isinstance(node, ast.Name) and isinstance(node.ctx, ast.Store):
                    with self.subTest(file=name, line=node.lineno):
                        self.assertNotIn(name_of(node), taken)

    def test_is_stands_beside_none_true_and_false_alone(self):
        for name, node in nodes():
            if isinstance(node, ast.Compare) and any(isinstance(one, (ast.Is, ast.IsNot)) for one in node.ops):
                with self.subTest(file=name, line=node.lineno):
                    self.assertIn(ast.unparse(node.comparators[0]), ("None", "True", "False"))

    def test_what_is_walked_is_walked_on_the_spot(self):
        for name, node, above in placed_nodes():
            if called(node) not in WALKED:
                continue
            with self.subTest(file=name, line=node.lineno):
                if isinstance(above, (ast.For, ast.comprehension)):
                    self.assertIs(above.iter, node)
                else:
                    self.assertIn(called(above), WALKERS)
                    self.assertIs(above.args[0], node)

    def test_a_set_is_not_kept(self):
        for name, tree in parsed():
            spots = []
            for node in ast.walk(tree):
                if isinstance(node, ast.Compare):
                    spots += node.comparators + [node.left]
                elif called(node) in ("sorted", "len"):
                    spots += parts(node.args[0])
            for node in ast.walk(tree):
                if called(node) in ("set", "frozenset"):
                    with self.subTest(file=name, line=node.lineno):
                        self.assertIn(node, spots)

    def test_keywords_at_pythons_own(self):
        allowed = {"sorted": {"key", "reverse"}, "min": {"key", "default"}, "max": {"key", "default"},
                   "sum": {"start"}, "enumerate": {"start"}, "zip": {"strict"}}
        for name, node in nodes():
            word = called(node)
            if word in OWN_NAMES:
                with self.subTest(file=name, line=node.lineno):
                    self.assertLessEqual({keyword.arg for keyword in node.keywords}, allowed.get(word, set()))

    def test_no_name_is_a_method_here_and_a_value_there(self):
        methods = {item.name for _, node in nodes() if isinstance(node, ast.ClassDef)
                   for item in node.body if isinstance(item, ast.FunctionDef)}
        values = {node.attr for _, node in nodes()
                  if isinstance(node, ast.Attribute) and isinstance(node.ctx, ast.Store)}
        self.assertEqual(methods & values, set())
