"""Asks some rules of LANGUAGE.md of the package's files: those plain to see by line or by node. The others need a reader."""

import ast
import builtins
import pathlib
import re
import unittest

PACKAGE = pathlib.Path(__file__).resolve().parent.parent / "volumemend"

NODES = set("""
    Module ImportFrom alias FunctionDef arguments arg Lambda ClassDef
    Assign AugAssign If While For Return Break Continue Pass Raise Try ExceptHandler Expr
    Constant List Tuple Dict Set Name Attribute Subscript Slice Call keyword ListComp comprehension
    JoinedStr FormattedValue IfExp BinOp BoolOp UnaryOp Compare Load Store
    Add Sub Mult FloorDiv Mod Pow BitAnd BitOr BitXor LShift RShift And Or Not USub UAdd Invert
    Eq NotEq Lt LtE Gt GtE Is IsNot In NotIn
""".split())

OWN_NAMES = set("""
    len range enumerate zip min max sum abs sorted reversed int str bool list tuple dict set frozenset
    isinstance ord repr any all divmod Exception ValueError TypeError KeyError IndexError LookupError
    ZeroDivisionError ArithmeticError OverflowError RuntimeError NotImplementedError AttributeError StopIteration
""".split())

PLAIN_NODES = set("Constant List Tuple Dict UnaryOp USub Name Load".split())

METHODS = set("""
    append clear copy count endswith extend find get index insert isalnum isalpha isdigit islower isspace isupper
    items join keys ljust lower lstrip partition pop remove replace reverse rfind rjust rpartition rsplit rstrip
    setdefault split splitlines startswith strip update upper values zfill bit_length
""".split())

DUNDERS = set("__init__ __eq__ __repr__ __str__ __len__".split())

NO_WORDS = set("""
    type typing typing_extensions enum Enum IntEnum StrEnum Flag IntFlag Generic Protocol ABC ABCMeta
    namedtuple NamedTuple TypedDict TYPE_CHECKING abstractmethod
""".split())


# Calls whose answer is walked on the spot, and those that walk it so.
WALKED = set("zip enumerate reversed range".split())
WALKED_METHODS = set("items keys values".split())
WALKERS = set("list tuple dict sorted sum any all enumerate zip min max".split())

KEYWORDS = {"sorted": {"key", "reverse"}, "min": {"key", "default"}, "max": {"key", "default"}, "sum": {"start"},
            "enumerate": {"start"}, "zip": {"strict"}}


def parents_of(tree):
    return {child: node for node in ast.walk(tree) for child in ast.iter_child_nodes(node)}


def called_name(node):
    """The name that is called, where the node is a call of a name."""
    return node.func.id if isinstance(node, ast.Call) and isinstance(node.func, ast.Name) else ""


def is_walked_call(node):
    if called_name(node) in WALKED:
        return True
    method = isinstance(node, ast.Call) and isinstance(node.func, ast.Attribute)
    return method and node.func.attr in WALKED_METHODS and not node.args


def is_walked_on_the_spot(node, parent):
    if isinstance(parent, (ast.For, ast.comprehension)):
        return parent.iter is node
    return called_name(parent) in WALKERS and node in parent.args


def is_class_in_its_place(node, parent, parents):
    """Whether a class is called, a base, taken or asked by isinstance; also Base.__init__."""
    if isinstance(parent, ast.Tuple):
        node, parent = parent, parents[parent]
    if isinstance(parent, ast.Call):
        return parent.func is node or (called_name(parent) == "isinstance" and parent.args[1] is node)
    if isinstance(parent, ast.Attribute):
        return parent.attr == "__init__"
    return isinstance(parent, (ast.ClassDef, ast.ExceptHandler))


def names_of(node):
    if isinstance(node, ast.Name):
        return [node.id]
    if isinstance(node, (ast.FunctionDef, ast.ClassDef)):
        return [node.name]
    if isinstance(node, ast.Attribute):
        return [node.attr]
    if isinstance(node, ast.arg):
        return [node.arg]
    return []


def is_binding(node):
    # Methods and values of objects may be called like names of Python's own; parameters, locals and classes not.
    if isinstance(node, ast.Name):
        return isinstance(node.ctx, ast.Store)
    return isinstance(node, (ast.arg, ast.ClassDef))


def methods_of(tree):
    classes = [node for node in tree.body if isinstance(node, ast.ClassDef)]
    return {part.name for node in classes for part in node.body if isinstance(part, ast.FunctionDef)}


def values_of(tree):
    stores = [node for node in ast.walk(tree) if isinstance(node, ast.Attribute) and isinstance(node.ctx, ast.Store)]
    return {node.attr for node in stores}


def imports_of(tree):
    return [node for node in tree.body if isinstance(node, ast.ImportFrom)]


def locals_of(tree):
    defs = [node for node in ast.walk(tree) if isinstance(node, (ast.FunctionDef, ast.Lambda))]
    inner = [part for node in defs for part in ast.walk(node) if isinstance(part, (ast.Name, ast.arg))]
    return {word for part in inner if is_binding(part) for word in names_of(part)}


class Form(unittest.TestCase):
    def setUp(self):
        self.texts = {path.name: path.read_bytes().decode("ascii") for path in sorted(PACKAGE.glob("*.py"))}
        self.trees = {name: ast.parse(text) for name, text in self.texts.items()}

    def nodes(self):
        return [(name, node) for name, tree in self.trees.items() for node in ast.walk(tree)]

    def test_the_folder_holds_python_files_alone(self):
        names = [path.name for path in PACKAGE.iterdir() if path.name != "__pycache__"]
        self.assertEqual(sorted(names), sorted(self.texts))
        self.assertIn("__init__.py", names)
        for name in names:
            self.assertRegex(name, r"\A(__init__|__main__|[a-z][a-z0-9_]*)\.py\Z")

    def test_signs_and_sizes(self):
        for name, text in self.texts.items():
            with self.subTest(file=name):
                self.assertRegex(text, r"\A[ -~\n]*\Z")
                self.assertLessEqual(len(text.splitlines()), 400)
                self.assertLessEqual(max([len(line) for line in text.splitlines()]), 120)
                self.assertFalse(NO_WORDS & set(re.findall(r"\w+", text)))
                self.assertNotRegex(text, "dataclass|overload|contextmanager")

    def test_functions_are_short(self):
        for name, node in self.nodes():
            if isinstance(node, ast.FunctionDef):
                self.assertLessEqual(node.end_lineno - node.lineno + 1, 40, (name, node.name))
                self.assertFalse(node.decorator_list, (name, node.name))

    def test_nodes(self):
        for name, node in self.nodes():
            place = (name, getattr(node, "lineno", 0))
            self.assertIn(type(node).__name__, NODES, place)
            if isinstance(node, ast.Expr) and node is not self.trees[name].body[0]:
                self.assertIsInstance(node.value, ast.Call, place)
            if isinstance(node, ast.Assign):
                self.assertEqual(len(node.targets), 1, place)
            if isinstance(node, ast.Constant):
                self.assertNotIsInstance(node.value, (float, complex, bytes), place)

    def test_imports_are_the_packages_own(self):
        for name, node in self.nodes():
            if isinstance(node, ast.ImportFrom):
                self.assertRegex(f"{node.level} {node.module}", r"\A0 volumemend\.[a-z_]+\Z", name)
                self.assertFalse([entry.name for entry in node.names if entry.name == "*" or entry.asname], name)

    def test_names(self):
        for name, node in self.nodes():
            for word in names_of(node):
                if word not in DUNDERS:
                    self.assertRegex(word, r"\A[A-Za-z][A-Za-z0-9_]*\Z", name)
                if is_binding(node):
                    self.assertFalse(hasattr(builtins, word), (name, word))
            if isinstance(node, ast.Name) and hasattr(builtins, node.id):
                self.assertIn(node.id, OWN_NAMES, name)

    def test_names_at_a_files_top_are_plain_and_bound_once(self):
        for name, tree in self.trees.items():
            bound = []
            for node in tree.body:
                if isinstance(node, ast.Assign):
                    kinds = {type(part).__name__ for part in ast.walk(node.value)}
                    self.assertFalse(kinds - PLAIN_NODES, (name, node.lineno))
                    bound.append(node.targets[0].id)
                elif isinstance(node, (ast.FunctionDef, ast.ClassDef)):
                    bound.append(node.name)
                elif isinstance(node, ast.ImportFrom):
                    bound.extend([entry.name for entry in node.names])
            self.assertEqual(len(set(bound)), len(bound), name)
            self.assertFalse(set(bound) & locals_of(tree), name)

    def test_names_are_drawn_from_the_file_that_defines_them(self):
        for name, tree in self.trees.items():
            for node in imports_of(tree):
                source = self.trees[node.module.split(".")[1] + ".py"]
                defined = [part.name for part in source.body if isinstance(part, (ast.FunctionDef, ast.ClassDef))]
                defined += [part.targets[0].id for part in source.body if isinstance(part, ast.Assign)]
                self.assertFalse({entry.name for entry in node.names} - set(defined), name)

    def test_no_two_files_draw_from_one_another(self):
        drawn = {}
        for name, tree in self.trees.items():
            drawn[name] = {node.module.split(".")[1] + ".py" for node in imports_of(tree)}
        left = sorted(drawn)
        while left:
            ready = [name for name in left if not drawn[name] & set(left)]
            self.assertTrue(ready, left)
            left = [name for name in left if name not in ready]

    def test_no_name_is_a_method_and_a_value(self):
        methods = set().union(*[methods_of(tree) for tree in self.trees.values()])
        values = set().union(*[values_of(tree) for tree in self.trees.values()])
        self.assertFalse(methods & values)

    def test_methods_are_the_programs_own_or_listed(self):
        own = set().union(METHODS, DUNDERS, *[methods_of(tree) for tree in self.trees.values()])
        for name, node in self.nodes():
            if isinstance(node, ast.Call) and isinstance(node.func, ast.Attribute):
                self.assertIn(node.func.attr, own, (name, node.lineno))

    def test_is_and_powers(self):
        for name, node in self.nodes():
            if isinstance(node, ast.Compare) and isinstance(node.ops[0], (ast.Is, ast.IsNot)):
                self.assertIn(ast.unparse(node.comparators[0]), ("None", "True", "False"), (name, node.lineno))
            if isinstance(node, ast.BinOp) and isinstance(node.op, ast.Pow):
                self.assertIsInstance(node.right, ast.Constant, (name, node.lineno))

    def test_what_is_walked_is_walked_on_the_spot(self):
        for name, tree in self.trees.items():
            parents = parents_of(tree)
            for node in ast.walk(tree):
                if is_walked_call(node):
                    self.assertTrue(is_walked_on_the_spot(node, parents[node]), (name, node.lineno))

    def test_sets_are_not_kept(self):
        for name, tree in self.trees.items():
            parents = parents_of(tree)
            for node in ast.walk(tree):
                if called_name(node) == "set":
                    parent = parents[node]
                    fine = isinstance(parent, ast.Compare) or called_name(parent) in ("len", "sorted")
                    self.assertTrue(fine, (name, node.lineno))

    def test_classes_are_not_handed_on(self):
        classes = {node.name for name, node in self.nodes() if isinstance(node, ast.ClassDef)}
        for name, tree in self.trees.items():
            parents = parents_of(tree)
            for node in ast.walk(tree):
                if isinstance(node, ast.Name) and node.id in classes:
                    self.assertTrue(is_class_in_its_place(node, parents[node], parents), (name, node.lineno))

    def test_keywords(self):
        for name, node in self.nodes():
            if isinstance(node, ast.Call):
                words = {keyword.arg for keyword in node.keywords}
                self.assertFalse(words - KEYWORDS.get(called_name(node), set()), (name, node.lineno))


if __name__ == "__main__":
    unittest.main()
