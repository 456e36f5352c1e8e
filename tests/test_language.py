"""The form of the package's files, as far as a look at their trees can tell."""

import ast
import builtins
import pathlib
import re
import unittest

FOLDER = pathlib.Path(__file__).resolve().parent.parent / "pieceyard"

NODES = """Module ImportFrom alias FunctionDef Lambda ClassDef arguments arg Assign AugAssign If While For
Return Break Continue Pass Raise Try ExceptHandler Expr Constant List Tuple Dict BinOp UnaryOp BoolOp Compare
IfExp Call keyword Attribute Subscript Slice ListComp comprehension JoinedStr FormattedValue Name Load Store
Add Sub Mult FloorDiv Mod Pow BitAnd BitOr BitXor LShift RShift Invert USub UAdd Not And Or
Eq NotEq Lt LtE Gt GtE Is IsNot In NotIn""".split()

BUILTINS = """len range enumerate zip min max sum abs sorted reversed int str bool list tuple dict set frozenset
isinstance ord repr any all divmod Exception ValueError TypeError KeyError IndexError LookupError ZeroDivisionError
ArithmeticError OverflowError RuntimeError NotImplementedError AttributeError StopIteration""".split()

DUNDERS = ["__init__", "__eq__", "__repr__", "__str__", "__len__"]

PYTHONS_METHODS = """append clear copy count endswith extend find get index insert isalnum isalpha isdigit islower
isspace isupper items join keys ljust lower lstrip partition pop remove replace reverse rfind rjust rpartition rsplit
rstrip setdefault split splitlines startswith strip update upper values zfill bit_length""".split()

FREE_METHODS = PYTHONS_METHODS + ["add", "discard"]

FREE_VALUES = "count index title find get join lower upper split strip copy add".split()

WORDS = """type typing typing_extensions enum Enum IntEnum StrEnum Flag IntFlag Generic Protocol ABC ABCMeta
namedtuple NamedTuple TypedDict TYPE_CHECKING abstractmethod""".split()

NEVER = """register mro elements open input version_info with_traceback add_note format format_map attrgetter
breakpoint builtins compile copyright credits delattr dir eval exec exit gc getattr globals hasattr help id importlib
license locals methodcaller os quit setattr super type vars sys chr print""".split()

WALKED_AT_ONCE = ["zip", "enumerate", "reversed", "range", "items", "keys", "values"]

WALKERS = ["list", "tuple", "dict", "sorted", "sum", "any", "all", "enumerate", "zip", "min", "max", "join"]

KEYWORDS = {"sorted": ["key", "reverse"], "min": ["key", "default"], "max": ["key", "default"], "sum": ["start"],
            "enumerate": ["start"], "zip": ["strict"]}


def files():
    return sorted(FOLDER.glob("*.py"))


def tree_of(path):
    tree = ast.parse(path.read_text("ascii"))
    for node in ast.walk(tree):
        for child in ast.iter_child_nodes(node):
            child.above = node
    return tree


def each(wanted):
    # Pairs of a place, for the words of a failure, and a node.
    found = []
    for path in files():
        for node in ast.walk(tree_of(path)):
            if isinstance(node, wanted):
                line = getattr(node, "lineno", 0)
                found.append((f"{path.name}:{line}", node))
    return found


def bound_names(node):
    if isinstance(node, ast.arg):
        return [node.arg]
    if isinstance(node, ast.Name) and isinstance(node.ctx, ast.Store):
        return [node.id]
    if isinstance(node, (ast.FunctionDef, ast.ClassDef)):
        return [node.name]
    return []


def top_names(tree):
    # The names that a file itself binds at its top, imports left out.
    found = []
    for node in tree.body:
        if isinstance(node, ast.Assign):
            found.append(node.targets[0].id)
        else:
            found.extend(bound_names(node))
    return found


def imported(tree):
    found = []
    for node in tree.body:
        if isinstance(node, ast.ImportFrom):
            found.extend([alias.name for alias in node.names])
    return found


def called(node):
    # What a call calls: the name, or the last of a dotted one.
    if isinstance(node.func, ast.Name):
        return node.func.id
    return node.func.attr


def own_methods():
    return {node.name for place, node in each(ast.FunctionDef) if isinstance(node.above, ast.ClassDef)}


def own_values():
    return {
        node.attr for place, node in each(ast.Attribute) if isinstance(node.ctx, ast.Store)
    }


def is_plain(node, functions):
    if isinstance(node, ast.Constant):
        return node.value is None or isinstance(node.value, (int, str))
    if isinstance(node, (ast.List, ast.Tuple)):
        return all(is_plain(part, functions) for part in node.elts)
    if isinstance(node, ast.Dict):
        return all(is_plain(part, functions) for part in node.keys + node.values)
    return isinstance(node, ast.Name) and node.id in functions


class FilesTest(unittest.TestCase):
    def test_files(self):
        for path in FOLDER.iterdir():
            if path.name != "__pycache__":
                with self.subTest(file=path.name):
                    self.assertRegex(path.name, r"\A(__init__|[a-z][a-z0-9_]*)\.py\Z")
                    self.assertFalse(path.stem != "__init__" and hasattr(builtins, path.stem))
                    self.assertNotRegex(path.stem, r"\A(test.*|site|conftest|.*customize)\Z")

    def test_signs_and_sizes(self):
        for path in files():
            with self.subTest(file=path.name):
                text = path.read_bytes().decode("ascii")
                self.assertRegex(text, r"\A[ -~\n]*\Z")
                rows = text.split("\n")
                self.assertLessEqual(len(rows), 400)
                self.assertLessEqual(max(map(len, rows)), 120)
        for place, node in each(ast.FunctionDef):
            self.assertLessEqual(node.end_lineno - node.lineno + 1, 40, place)

    def test_words(self):
        for path in files():
            text = path.read_text("ascii")
            with self.subTest(file=path.name):
                self.assertEqual([word for word in WORDS if re.search(rf"\b{word}\b", text)], [])
                self.assertIsNone(re.search("dataclass|overload|contextmanager", text))

    def test_the_top_of_a_file(self):
        for path in files():
            tree = tree_of(path)
            functions = [node.name for node in tree.body if isinstance(node, ast.FunctionDef)]
            names = top_names(tree) + imported(tree)
            with self.subTest(file=path.name):
                self.assertIsNotNone(ast.get_docstring(tree))
                self.assertEqual(len(names), len(set(names)))
                for node in tree.body[1:]:
                    self.assertIsInstance(node, (ast.ImportFrom, ast.FunctionDef, ast.ClassDef, ast.Assign))
                    if isinstance(node, ast.Assign):
                        self.assertTrue(is_plain(node.value, functions), node.lineno)

    def test_imports_are_the_packages_own(self):
        trees = {f"pieceyard.{path.stem}": tree_of(path) for path in files()}
        for place, node in each(ast.ImportFrom):
            self.assertEqual(node.level, 0, place)
            self.assertRegex(node.module, r"\Apieceyard\.[a-z0-9_]+\Z", place)
            for alias in node.names:
                self.assertIsNone(alias.asname, place)
                self.assertIn(alias.name, top_names(trees[node.module]), place)

    def test_imports_are_used(self):
        for path in files():
            tree = tree_of(path)
            used = {node.id for node in ast.walk(tree) if isinstance(node, ast.Name)}
            with self.subTest(file=path.name):
                self.assertEqual([name for name in imported(tree) if name not in used], [])

    def test_no_two_files_draw_from_one_another(self):
        drawn = {}
        for path in files():
            rows = [node for node in tree_of(path).body if isinstance(node, ast.ImportFrom)]
            drawn[path.stem] = {node.module.split(".")[1] for node in rows}
        while drawn:
            free = [name for name in drawn if not drawn[name] & set(drawn)]
            self.assertTrue(free, drawn)
            for name in free:
                del drawn[name]


class StatementsTest(unittest.TestCase):
    def test_nodes(self):
        for place, node in each(ast.AST):
            self.assertIn(node.__class__.__name__, NODES, place)

    def test_loops_have_no_else(self):
        for place, node in each((ast.For, ast.While)):
            self.assertEqual(node.orelse, [], place)

    def test_one_target(self):
        for place, node in each(ast.Assign):
            self.assertEqual(len(node.targets), 1, place)
            self.assertNotIsInstance(node.targets[0], (ast.Tuple, ast.List), place)

    def test_tries(self):
        for place, node in each(ast.Try):
            self.assertEqual(node.finalbody, [], place)
            for handler in node.handlers:
                self.assertIsInstance(handler.type, (ast.Name, ast.Tuple), place)
                for name in ast.walk(handler.type):
                    if isinstance(name, ast.Name):
                        # Of Python's own errors the package takes none.
                        self.assertFalse(hasattr(builtins, name.id), place)

    def test_raises_make_their_error_on_the_spot(self):
        for place, node in each(ast.Raise):
            self.assertIsInstance(node.exc, ast.Call, place)

    def test_calls_by_themselves(self):
        for place, node in each(ast.Expr):
            if not isinstance(node.value, ast.Call):
                self.assertIsInstance(node.above, ast.Module, place)

    def test_comprehensions(self):
        for place, node in each(ast.ListComp):
            self.assertEqual(len(node.generators), 1, place)
            self.assertLessEqual(len(node.generators[0].ifs), 1, place)

    def test_functions_are_plain(self):
        for place, node in each(ast.FunctionDef):
            self.assertIsInstance(node.above, (ast.Module, ast.ClassDef), place)
            self.assertEqual(node.decorator_list, [], place)
            self.assertIsNone(node.args.vararg, place)
            self.assertIsNone(node.args.kwarg, place)
            self.assertEqual(node.args.kwonlyargs + node.args.posonlyargs, [], place)
            for default in node.args.defaults:
                self.assertIsInstance(default, ast.Constant, place)
            self.assertIsNone(node.returns, place)

    def test_classes_are_plain(self):
        for place, node in each(ast.ClassDef):
            self.assertIsInstance(node.above, ast.Module, place)
            self.assertEqual(node.decorator_list + node.keywords, [], place)
            self.assertLessEqual(len(node.bases), 1, place)
            names = [part.name for part in node.body if isinstance(part, ast.FunctionDef)]
            self.assertEqual(len(names), len(set(names)), place)
            for part in node.body:
                self.assertIsInstance(part, (ast.FunctionDef, ast.Pass), place)


class NamesTest(unittest.TestCase):
    def test_names(self):
        for place, node in each(ast.Name):
            self.assertNotIn(node.id, NEVER, place)
            if hasattr(builtins, node.id):
                self.assertIn(node.id, BUILTINS, place)
        for place, node in each(ast.AST):
            for name in bound_names(node):
                if name not in DUNDERS:
                    self.assertFalse(hasattr(builtins, name), place)
                    self.assertRegex(name, r"\A[A-Za-z][A-Za-z0-9_]*\Z", place)

    def test_no_local_is_called_like_a_class_or_an_import(self):
        for path in files():
            tree = tree_of(path)
            taken = imported(tree) + top_names(tree)
            for top in tree.body:
                if isinstance(top, (ast.FunctionDef, ast.ClassDef)):
                    for node in ast.walk(top):
                        if node is not top and not isinstance(node, ast.FunctionDef):
                            for name in bound_names(node):
                                self.assertNotIn(name, taken, f"{path.name}:{node.lineno}")

    def test_methods_and_values(self):
        methods = own_methods()
        values = own_values()
        pythons = set(dir(str) + dir(int) + dir(list) + dir(dict) + dir(set) + dir(bytes))
        self.assertEqual(methods & values, set())
        for name in methods - set(DUNDERS):
            self.assertTrue(name in FREE_METHODS or name not in pythons, name)
        for name in values:
            self.assertTrue(name in FREE_VALUES or name not in pythons, name)

    def test_attributes(self):
        methods = own_methods() | set(PYTHONS_METHODS)
        values = own_values()
        for place, node in each(ast.Attribute):
            self.assertNotIn(node.attr, NEVER, place)
            self.assertRegex(node.attr, r"\A([A-Za-z][A-Za-z0-9_]*|__init__)\Z", place)
            if isinstance(node.above, ast.Call) and node.above.func is node:
                self.assertIn(node.attr, methods, place)
            else:
                self.assertIn(node.attr, values, place)

    def test_python_s_own_are_called(self):
        for place, node in each(ast.Name):
            if node.id in BUILTINS and isinstance(node.above, (ast.Call, ast.Tuple)):
                if node.id in ("int", "str", "bool", "list", "tuple", "dict"):
                    continue
                self.assertIs(getattr(node.above, "func", None), node, place)

    def test_keywords(self):
        for place, node in each(ast.Call):
            if node.keywords:
                for keyword in node.keywords:
                    self.assertIn(keyword.arg, KEYWORDS.get(called(node), []), place)

    def test_is_stands_beside_none_true_false(self):
        for place, node in each(ast.Compare):
            for operator, right in zip(node.ops, node.comparators):
                if isinstance(operator, (ast.Is, ast.IsNot)):
                    self.assertIsInstance(right, ast.Constant, place)
                    self.assertIn(right.value, (None, True, False), place)


class ValuesTest(unittest.TestCase):
    def test_constants(self):
        for place, node in each(ast.Constant):
            if node.value is not None:
                self.assertIn(node.value.__class__, (bool, int, str), place)
            if isinstance(node.value, str):
                self.assertNotIn(chr(37), node.value, place)

    def test_written_texts_hold_names_alone(self):
        for place, node in each(ast.FormattedValue):
            self.assertIsInstance(node.value, ast.Name, place)
            self.assertIsNone(node.format_spec, place)
            self.assertIn(node.conversion, (-1, ord("r")), place)

    def test_walked_at_once(self):
        for place, node in each(ast.Call):
            if called(node) in WALKED_AT_ONCE and not isinstance(node.above, (ast.For, ast.comprehension)):
                if isinstance(node.func, ast.Name) or called(node) in ("items", "values"):
                    self.assertIsInstance(node.above, ast.Call, place)
                    self.assertIn(called(node.above), WALKERS, place)
                    self.assertIs(node.above.args[0], node, place)

    def test_sets(self):
        for place, node in each(ast.Call):
            if called(node) in ("set", "frozenset"):
                above = node.above
                while isinstance(above, ast.BinOp):
                    above = above.above
                if isinstance(above, ast.Call):
                    self.assertIn(called(above), ("sorted", "len"), place)
                    self.assertEqual(above.keywords, [], place)
                else:
                    self.assertIsInstance(above, ast.Compare, place)

    def test_lists_and_dicts_of_the_top_are_only_read(self):
        for path in files():
            tree = tree_of(path)
            for node in tree.body:
                if isinstance(node, ast.Assign):
                    with self.subTest(file=path.name, line=node.lineno):
                        # Tuples alone are kept there, so that nothing can change them.
                        self.assertNotIsInstance(node.value, (ast.List, ast.Dict))


if __name__ == "__main__":
    unittest.main()
