"""The form of the package's files, as far as a short look at them can tell."""

import ast
import builtins
import pathlib
import re
import unittest

FOLDER = pathlib.Path(__file__).resolve().parent.parent / "pieceyard"

NODES = """Module Import ImportFrom alias FunctionDef Lambda ClassDef arguments arg Assign AugAssign If While For
Return Break Continue Pass Raise Try ExceptHandler Expr Constant List Tuple Dict Set BinOp UnaryOp BoolOp Compare
IfExp Call keyword Attribute Subscript Slice ListComp comprehension JoinedStr FormattedValue Name Load Store
Add Sub Mult FloorDiv Mod Pow BitAnd BitOr BitXor LShift RShift Invert USub UAdd Not And Or
Eq NotEq Lt LtE Gt GtE Is IsNot In NotIn""".split()

BUILTINS = """len range enumerate zip min max sum abs sorted reversed int str bool list tuple dict set frozenset
isinstance ord repr any all divmod Exception ValueError TypeError KeyError IndexError LookupError ZeroDivisionError
ArithmeticError OverflowError RuntimeError NotImplementedError AttributeError StopIteration""".split()

METHODS = ["__init__", "__eq__", "__repr__", "__str__", "__len__"]

WORDS = """type typing typing_extensions enum Enum IntEnum StrEnum Flag IntFlag Generic Protocol ABC ABCMeta
namedtuple NamedTuple TypedDict TYPE_CHECKING abstractmethod""".split()


def each(wanted):
    # Pairs of a place, for the words of a failure, and a node.
    found = []
    for path in sorted(FOLDER.glob("*.py")):
        for node in ast.walk(ast.parse(path.read_text("ascii"))):
            if isinstance(node, wanted):
                line = getattr(node, "lineno", 0)
                found.append((f"{path.name}:{line}", node))
    return found


def bound_names(node):
    if isinstance(node, ast.arg):
        return [node.arg]
    if isinstance(node, ast.Name) and isinstance(node.ctx, ast.Store):
        return [node.id]
    if isinstance(node, (ast.FunctionDef, ast.ClassDef)):
        return [node.name]
    return []


class LanguageTest(unittest.TestCase):
    def test_files(self):
        for path in FOLDER.iterdir():
            if path.name != "__pycache__":
                with self.subTest(file=path.name):
                    self.assertRegex(path.name, r"\A(__init__|[a-z][a-z0-9_]*)\.py\Z")

    def test_signs_and_sizes(self):
        for path in FOLDER.glob("*.py"):
            with self.subTest(file=path.name):
                text = path.read_bytes().decode("ascii")
                self.assertRegex(text, r"\A[ -~\n]*\Z")
                rows = text.split("\n")
                self.assertLessEqual(len(rows), 400)
                self.assertLessEqual(max(map(len, rows)), 120)
        for place, node in each(ast.FunctionDef):
            self.assertLessEqual(node.end_lineno - node.lineno + 1, 40, place)

    def test_words(self):
        for path in FOLDER.glob("*.py"):
            text = path.read_text("ascii")
            with self.subTest(file=path.name):
                self.assertEqual([word for word in WORDS if re.search(rf"\b{word}\b", text)], [])
                self.assertIsNone(re.search("dataclass|overload|contextmanager", text))

    def test_nodes(self):
        for place, node in each(ast.AST):
            self.assertIn(node.__class__.__name__, NODES, place)

    def test_imports_are_the_packages_own(self):
        for place, node in each((ast.Import, ast.ImportFrom)):
            self.assertIsInstance(node, ast.ImportFrom, place)
            self.assertEqual(node.level, 0, place)
            self.assertRegex(node.module, r"\Apieceyard\.[a-z0-9_]+\Z", place)
            self.assertNotIn("*", [alias.name for alias in node.names], place)

    def test_names(self):
        for place, node in each(ast.Name):
            if hasattr(builtins, node.id):
                self.assertIn(node.id, BUILTINS, place)
        for place, node in each(ast.AST):
            for name in bound_names(node):
                if name not in METHODS:
                    self.assertFalse(hasattr(builtins, name), place)
                    self.assertRegex(name, r"\A[A-Za-z][A-Za-z0-9_]*\Z", place)

    def test_functions_are_plain(self):
        for place, node in each(ast.FunctionDef):
            self.assertEqual(node.decorator_list, [], place)
            self.assertIsNone(node.args.vararg, place)
            self.assertIsNone(node.args.kwarg, place)
            self.assertEqual(node.args.kwonlyargs, [], place)

    def test_is_stands_beside_none_true_false(self):
        for place, node in each(ast.Compare):
            for operator, right in zip(node.ops, node.comparators):
                if isinstance(operator, (ast.Is, ast.IsNot)):
                    self.assertIsInstance(right, ast.Constant, place)
                    self.assertIn(right.value, (None, True, False), place)


if __name__ == "__main__":
    unittest.main()
