"""Asks some rules of LANGUAGE.md of the package's files: those plain to see by line or by node. The others need a reader."""

import ast
import builtins
import pathlib
import re
import unittest

PACKAGE = pathlib.Path(__file__).resolve().parent.parent / "volumemend"

NODES = set("""
    Module ImportFrom alias FunctionDef arguments arg Lambda ClassDef
    Assign AugAssign If While For Return Break Continue Pass Raise Try ExceptHandler Expr
    Constant List Tuple Dict Set Name Attribute Subscript Slice Call keyword ListComp comprehension
    JoinedStr FormattedValue IfExp BinOp BoolOp UnaryOp Compare Load Store
    Add Sub Mult FloorDiv Mod Pow BitAnd BitOr BitXor LShift RShift And Or Not USub UAdd Invert
    Eq NotEq Lt LtE Gt GtE Is IsNot In NotIn
""".split())

OWN_NAMES = set("""
    len range enumerate zip min max sum abs sorted reversed int str bool list tuple dict set frozenset
    isinstance ord repr any all divmod Exception ValueError TypeError KeyError IndexError LookupError
    ZeroDivisionError ArithmeticError OverflowError RuntimeError NotImplementedError AttributeError StopIteration
""".split())

DUNDERS = set("__init__ __eq__ __repr__ __str__ __len__".split())

NO_WORDS = set("""
    type typing typing_extensions enum Enum IntEnum StrEnum Flag IntFlag Generic Protocol ABC ABCMeta
    namedtuple NamedTuple TypedDict TYPE_CHECKING abstractmethod
""".split())


def names_of(node):
    if isinstance(node, ast.Name):
        return [node.id]
    if isinstance(node, (ast.FunctionDef, ast.ClassDef)):
        return [node.name]
    if isinstance(node, ast.Attribute):
        return [node.attr]
    if isinstance(node, ast.arg):
        return [node.arg]
    return []


def is_binding(node):
    # Methods and values of objects may be called like names of Python's own; parameters, locals and classes not.
    if isinstance(node, ast.Name):
        return isinstance(node.ctx, ast.Store)
    return isinstance(node, (ast.arg, ast.ClassDef))


class Form(unittest.TestCase):
    def setUp(self):
        self.texts = {path.name: path.read_bytes().decode("ascii") for path in sorted(PACKAGE.glob("*.py"))}
        self.trees = {name: ast.parse(text) for name, text in self.texts.items()}

    def nodes(self):
        return [(name, node) for name, tree in self.trees.items() for node in ast.walk(tree)]

    def test_the_folder_holds_python_files_alone(self):
        names = [path.name for path in PACKAGE.iterdir() if path.name != "__pycache__"]
        self.assertEqual(sorted(names), sorted(self.texts))
        self.assertIn("__init__.py", names)
        for name in names:
            self.assertRegex(name, r"\A(__init__|__main__|[a-z][a-z0-9_]*)\.py\Z")

    def test_signs_and_sizes(self):
        for name, text in self.texts.items():
            with self.subTest(file=name):
                self.assertRegex(text, r"\A[ -~\n]*\Z")
                self.assertLessEqual(len(text.splitlines()), 400)
                self.assertLessEqual(max([len(line) for line in text.splitlines()]), 120)
                self.assertFalse(NO_WORDS & set(re.findall(r"\w+", text)))
                self.assertNotRegex(text, "dataclass|overload|contextmanager")

    def test_functions_are_short(self):
        for name, node in self.nodes():
            if isinstance(node, ast.FunctionDef):
                self.assertLessEqual(node.end_lineno - node.lineno + 1, 40, (name, node.name))
                self.assertFalse(node.decorator_list, (name, node.name))

    def test_nodes(self):
        for name, node in self.nodes():
            place = (name, getattr(node, "lineno", 0))
            self.assertIn(type(node).__name__, NODES, place)
            if isinstance(node, ast.Expr) and node is not self.trees[name].body[0]:
                self.assertIsInstance(node.value, ast.Call, place)
            if isinstance(node, ast.Assign):
                self.assertEqual(len(node.targets), 1, place)
            if isinstance(node, ast.Constant):
                self.assertNotIsInstance(node.value, (float, complex, bytes), place)

    def test_imports_are_the_packages_own(self):
        for name, node in self.nodes():
            if isinstance(node, ast.ImportFrom):
                self.assertRegex(f"{node.level} {node.module}", r"\A0 volumemend\.[a-z_]+\Z", name)
                self.assertFalse([entry.name for entry in node.names if entry.name == "*" or entry.asname], name)

    def test_names(self):
        for name, node in self.nodes():
            for word in names_of(node):
                if word not in DUNDERS:
                    self.assertRegex(word, r"\A[A-Za-z][A-Za-z0-9_]*\Z", name)
                if is_binding(node):
                    self.assertFalse(hasattr(builtins, word), (name, word))
            if isinstance(node, ast.Name) and hasattr(builtins, node.id):
                self.assertIn(node.id, OWN_NAMES, name)


if __name__ == "__main__":
    unittest.main()
