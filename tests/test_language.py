"""The form of the package's code, as far as it can be seen from its syntax alone."""

import ast
import os
import re
import unittest

TOP = os.path.dirname(os.path.dirname(os.path.abspath(__file__)))
PACKAGE = os.path.join(TOP, "guardedparts")

NODES = """Module FunctionDef arguments arg ClassDef Return Assign AugAssign For While If Raise Try ExceptHandler
ImportFrom alias Expr Pass Break Continue BoolOp BinOp UnaryOp Lambda IfExp Dict Set ListComp comprehension Compare
Call FormattedValue JoinedStr Constant Attribute Subscript Name List Tuple Slice Load Store keyword
And Or Add Sub Mult Mod Pow LShift RShift BitOr BitXor BitAnd FloorDiv Invert Not UAdd USub
Eq NotEq Lt LtE Gt GtE Is IsNot In NotIn""".split()

BUILTINS = """len range enumerate zip min max sum abs sorted reversed int str bool list tuple dict set frozenset
isinstance ord repr any all divmod Exception ValueError TypeError KeyError IndexError LookupError ZeroDivisionError
ArithmeticError OverflowError RuntimeError NotImplementedError AttributeError StopIteration""".split()

METHODS = """append clear copy count endswith extend find get index insert isalnum isalpha isdigit islower isspace
isupper items join keys ljust lower lstrip partition pop remove replace reverse rfind rjust rpartition rsplit rstrip
setdefault split splitlines startswith strip update upper values zfill bit_length""".split()

BARRED_WORDS = """type typing typing_extensions enum Enum IntEnum StrEnum Flag IntFlag Generic Protocol ABC ABCMeta
namedtuple NamedTuple TypedDict TYPE_CHECKING abstractmethod""".split()

BARRED_NAMES = """register mro elements open input version_info with_traceback add_note attrgetter breakpoint builtins
compile copyright credits delattr dir eval exec exit gc getattr globals hasattr help id importlib license locals
methodcaller os quit setattr super vars sys format format_map""".split()

DOUBLE = ("__init__", "__eq__", "__repr__", "__str__", "__len__")


def sources():
    """The files of the package with their texts."""
    found = {}
    for name in sorted(os.listdir(PACKAGE)):
        if name != "__pycache__":
            with open(os.path.join(PACKAGE, name), encoding="utf-8") as file:
                found[name] = file.read()
    return found


def plain_value(node):
    """Whether a value at a file's top is a number, a text, or a tuple, list or dict of such."""
    if isinstance(node, ast.UnaryOp) and isinstance(node.op, ast.USub):
        node = node.operand
    if isinstance(node, (ast.List, ast.Tuple)):
        return all(plain_value(item) for item in node.elts)
    if isinstance(node, ast.Dict):
        return all(plain_value(item) for item in node.keys + node.values)
    return isinstance(node, ast.Constant)


class Language(unittest.TestCase):
    def setUp(self):
        self.sources = sources()
        self.trees = {name: ast.parse(text) for name, text in self.sources.items()}

    def nodes(self, *kinds):
        """All nodes of these kinds, with their files."""
        return [(name, node) for name, tree in self.trees.items() for node in ast.walk(tree)
                if isinstance(node, kinds)]

    def own_methods(self):
        return {node.name for name, kind in self.nodes(ast.ClassDef) for node in kind.body
                if isinstance(node, ast.FunctionDef)}

    def test_files(self):
        self.assertIn("__init__.py", self.sources)
        for name in self.sources:
            self.assertRegex(name, r"^([a-z][a-z0-9_]*|__init__)\.py$")

    def test_signs_and_sizes(self):
        for name, text in self.sources.items():
            self.assertRegex(text, r"^[ -~\n]*$", name)
            lines = text.split("\n")
            self.assertLessEqual(len(lines), 400, name)
            self.assertLessEqual(max(len(line) for line in lines), 120, name)
        for name, node in self.nodes(ast.FunctionDef):
            self.assertLessEqual(node.end_lineno - node.lineno + 1, 40, (name, node.name))

    def test_words(self):
        for name, text in self.sources.items():
            words = set(re.findall(r"\w+", text))
            self.assertEqual(words & set(BARRED_WORDS), set(), name)
            self.assertNotRegex(text, "dataclass|overload|contextmanager")

    def test_statements_and_expressions(self):
        for name, node in self.nodes(ast.AST):
            self.assertIn(node.__class__.__name__, NODES, (name, getattr(node, "lineno", 0)))
        for name, node in self.nodes(ast.Assign):
            self.assertEqual(len(node.targets), 1, (name, node.lineno))
        for name, node in self.nodes(ast.For, ast.While):
            self.assertEqual(node.orelse, [], (name, node.lineno))
        for name, node in self.nodes(ast.ListComp):
            self.assertEqual(len(node.generators), 1, (name, node.lineno))
            self.assertLessEqual(len(node.generators[0].ifs), 1, (name, node.lineno))
        for name, node in self.nodes(ast.FunctionDef, ast.ClassDef):
            self.assertEqual(node.decorator_list, [], (name, node.lineno))
        for name, node in self.nodes(ast.Constant):
            self.assertIn(node.value.__class__, (int, str, bool, type(None)), (name, node.lineno))

    def test_top_of_each_file(self):
        for name, tree in self.trees.items():
            self.assertIsNotNone(ast.get_docstring(tree), name)
            bound = []
            for node in tree.body[1:]:
                self.assertIsInstance(node, (ast.ImportFrom, ast.FunctionDef, ast.ClassDef, ast.Assign), name)
                if isinstance(node, ast.Assign):
                    self.assertTrue(plain_value(node.value), (name, node.lineno))
                    bound.append(node.targets[0].id)
                elif isinstance(node, ast.ImportFrom):
                    bound.extend(alias.name for alias in node.names)
                else:
                    bound.append(node.name)
            self.assertEqual(len(bound), len(set(bound)), name)

    def test_imports(self):
        drawn = {}
        for name, node in self.nodes(ast.ImportFrom):
            package, module = node.module.split(".")
            self.assertEqual((package, node.level), ("guardedparts", 0), name)
            defined = {getattr(item, "name", None) or item.targets[0].id for item in self.trees[module + ".py"].body
                       if isinstance(item, (ast.FunctionDef, ast.ClassDef, ast.Assign))}
            for alias in node.names:
                self.assertIn(alias.name, defined, name)
                self.assertIsNone(alias.asname, name)
            drawn.setdefault(name, set()).add(module + ".py")
        while drawn:
            ends = [name for name in drawn if not drawn[name] & set(drawn)]
            self.assertTrue(ends, "files draw from one another")
            for name in ends:
                drawn.pop(name)

    def test_names(self):
        for file, tree in self.trees.items():
            known = set(BUILTINS)
            for node in ast.walk(tree):
                if isinstance(node, (ast.FunctionDef, ast.ClassDef)):
                    known.add(node.name)
                elif isinstance(node, ast.arg):
                    known.add(node.arg)
                elif isinstance(node, ast.alias):
                    known.add(node.name)
                elif isinstance(node, ast.Name) and isinstance(node.ctx, ast.Store):
                    known.add(node.id)
            for node in ast.walk(tree):
                if isinstance(node, ast.Name):
                    self.assertIn(node.id, known, (file, node.lineno))

    def test_bound_names(self):
        barred = set(dir(__builtins__) if not isinstance(__builtins__, dict) else __builtins__) | set(BARRED_NAMES)
        for file, tree in self.trees.items():
            taken = {node.name for node in ast.walk(tree) if isinstance(node, (ast.ClassDef, ast.alias))}
            for node in ast.walk(tree):
                if isinstance(node, ast.FunctionDef):
                    self.assertTrue(node.name in DOUBLE or not node.name.startswith("_"), (file, node.name))
                    self.assertNotIn(node.name, barred, file)
                    self.assertIsNone(node.args.vararg or node.args.kwarg, (file, node.name))
                    self.assertEqual(node.args.kwonlyargs + node.args.posonlyargs, [], (file, node.name))
                name = None
                if isinstance(node, ast.arg):
                    name = node.arg
                elif isinstance(node, ast.Name) and isinstance(node.ctx, ast.Store):
                    name = node.id
                if name is not None:
                    self.assertNotIn(name, barred | taken, file)
                    self.assertFalse(name.startswith("_"), (file, name))

    def test_methods_and_values(self):
        methods = self.own_methods()
        values = {node.attr for name, node in self.nodes(ast.Attribute) if isinstance(node.ctx, ast.Store)}
        self.assertEqual(methods & values, set())
        pythons = set(dir("") + dir(0) + dir([]) + dir({}) + dir(set()) + dir(b""))
        self.assertEqual((methods | values) & pythons - set(DOUBLE), set())
        for name, node in self.nodes(ast.Attribute):
            self.assertIn(node.attr, methods | values | set(METHODS), (name, node.lineno))

    def test_walked_at_once(self):
        walked = set()
        for name, node in self.nodes(ast.For, ast.comprehension):
            walked.add(node.iter)
        for name, node in self.nodes(ast.Call):
            called = getattr(node.func, "id", "")
            if called in ("list", "tuple", "dict", "sorted", "sum", "any", "all", "enumerate", "zip", "min", "max"):
                walked.update(node.args)
        for name, node in self.nodes(ast.Call):
            called = getattr(node.func, "id", getattr(node.func, "attr", ""))
            if called in ("zip", "enumerate", "reversed", "range", "items", "keys", "values"):
                self.assertIn(node, walked, (name, node.lineno))

    def test_lambdas_on_lines_of_their_own(self):
        lines = [(name, node.lineno) for name, node in self.nodes(ast.Lambda)]
        self.assertEqual(len(lines), len(set(lines)))

    def test_is_beside_none_alone(self):
        for name, node in self.nodes(ast.Compare):
            for op, right in zip(node.ops, node.comparators):
                if isinstance(op, (ast.Is, ast.IsNot)):
                    self.assertIsInstance(right, ast.Constant, (name, node.lineno))


if __name__ == "__main__":
    unittest.main()
