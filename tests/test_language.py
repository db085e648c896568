"""The package keeps to the small part of Python that the project allows.

Not every rule can be seen here; these are the ones that a look at the written code can tell.
"""

import ast
import builtins
import pathlib
import re
import unittest

PACKAGE = pathlib.Path(__file__).resolve().parent.parent / "turnnest"

NODES = set("""
    Module Import ImportFrom alias FunctionDef arguments arg Lambda ClassDef Assign AugAssign If While For Return
    Break Continue Pass Raise Try ExceptHandler Expr Name Attribute Subscript Slice Constant List Tuple Dict Set
    BinOp UnaryOp BoolOp Compare IfExp Call keyword ListComp comprehension JoinedStr FormattedValue Load Store
    Add Sub Mult FloorDiv Mod Pow BitAnd BitOr BitXor LShift RShift Invert Not UAdd USub And Or
    Eq NotEq Lt LtE Gt GtE Is IsNot In NotIn
""".split())

BUILTINS = set("""
    len range enumerate zip min max sum abs sorted reversed int str bool list tuple dict set frozenset isinstance
    ord repr any all divmod Exception ValueError TypeError KeyError IndexError LookupError ZeroDivisionError
    ArithmeticError OverflowError RuntimeError NotImplementedError AttributeError StopIteration print
""".split())

METHODS = set("""
    append clear copy count endswith extend find get index insert isalnum isalpha isdigit islower isspace isupper
    items join keys ljust lower lstrip partition pop remove replace reverse rfind rjust rpartition rsplit rstrip
    setdefault split splitlines startswith strip update upper values zfill bit_length
""".split())

SPECIAL = {"__init__", "__eq__", "__repr__", "__str__", "__len__"}

WORDS = re.compile(
    r"\b(type|typing|typing_extensions|enum|Enum|IntEnum|StrEnum|Flag|IntFlag|Generic|Protocol|ABC|ABCMeta|namedtuple"
    r"|NamedTuple|TypedDict|TYPE_CHECKING|abstractmethod)\b|dataclass|overload|contextmanager"
)


def own_names(tree):
    """The names that a file binds, be it by import, def, class, parameter or assignment."""
    names = set()
    for node in ast.walk(tree):
        if isinstance(node, (ast.FunctionDef, ast.ClassDef)):
            names.add(node.name)
        elif isinstance(node, ast.arg):
            names.add(node.arg)
        elif isinstance(node, ast.alias):
            names.add(node.asname or node.name)
        elif isinstance(node, ast.Name) and isinstance(node.ctx, ast.Store):
            names.add(node.id)
    return names


class LanguageTest(unittest.TestCase):
    def setUp(self):
        self.files = {path.name: path.read_text("utf-8") for path in sorted(PACKAGE.glob("*.py"))}
        self.trees = {name: ast.parse(text) for name, text in self.files.items()}

    def walk(self, *kinds):
        for name, tree in self.trees.items():
            for node in ast.walk(tree):
                if isinstance(node, kinds):
                    yield f"{name}:{getattr(node, 'lineno', 0)}", node

    def test_files(self):
        self.assertIn("__init__.py", self.files)
        for path in PACKAGE.iterdir():
            if path.name != "__pycache__":
                self.assertRegex(path.name, r"\A(__init__|__main__|[a-z][a-z0-9_]*)\.py\Z")
                self.assertFalse(hasattr(builtins, path.stem) and path.stem[0] != "_", path.name)

    def test_signs_and_sizes(self):
        for name, text in self.files.items():
            self.assertRegex(text, r"\A[ -~\n]*\Z", name)
            rows = text.split("\n")
            self.assertLessEqual(len(rows), 401, name)
            self.assertLessEqual(max(len(row) for row in rows), 120, name)
            self.assertIsNone(WORDS.search(text), name)
        for where, node in self.walk(ast.FunctionDef):
            self.assertLessEqual(node.end_lineno - node.lineno + 1, 40, where)

    def test_forms(self):
        for where, node in self.walk(ast.AST):
            self.assertIn(node.__class__.__name__, NODES, where)
        for where, node in self.walk(ast.FunctionDef, ast.ClassDef):
            self.assertEqual(node.decorator_list, [], where)
        for where, node in self.walk(ast.arguments):
            extra = (node.vararg, node.kwarg, node.kwonlyargs, node.posonlyargs)
            self.assertEqual(extra, (None, None, [], []), where)
        for where, node in self.walk(ast.Assign):
            self.assertEqual(len(node.targets), 1, where)
        for where, node in self.walk(ast.For, ast.While, ast.Try):
            self.assertTrue(isinstance(node, ast.Try) or node.orelse == [], where)
            self.assertEqual(getattr(node, "finalbody", []), [], where)
        for where, node in self.walk(ast.ListComp):
            self.assertEqual(len(node.generators), 1, where)
            self.assertLessEqual(len(node.generators[0].ifs), 1, where)
        for where, node in self.walk(ast.Constant):
            self.assertIsInstance(node.value, (int, str, type(None)), where)
            self.assertFalse(isinstance(node.value, str) and "%" in node.value, where)

    def test_is_stands_beside_none_and_truths(self):
        for where, node in self.walk(ast.Compare):
            for sign, right in zip(node.ops, node.comparators):
                if isinstance(sign, (ast.Is, ast.IsNot)):
                    self.assertIsInstance(right, ast.Constant, where)
                    self.assertIn(repr(right.value), ("None", "True", "False"), where)

    def test_imports(self):
        for where, node in self.walk(ast.Import):
            self.assertTrue(where.startswith("__main__.py"), where)
            self.assertEqual([alias.name for alias in node.names], ["sys"], where)
        for where, node in self.walk(ast.ImportFrom):
            self.assertEqual(node.level, 0, where)
            self.assertRegex(node.module, r"\Aturnnest\.[a-z0-9_]+\Z", where)
            defining = self.trees[node.module.partition(".")[2] + ".py"]
            tops = set()
            for top in defining.body:
                if isinstance(top, (ast.FunctionDef, ast.ClassDef)):
                    tops.add(top.name)
                elif isinstance(top, ast.Assign):
                    tops.add(top.targets[0].id)
            for alias in node.names:
                self.assertIn(alias.name, tops, where)

    def test_names(self):
        for name, tree in self.trees.items():
            own = own_names(tree)
            for bound in own - SPECIAL - {"__all__", "__version__"}:
                self.assertRegex(bound, r"\A[A-Za-z][A-Za-z0-9_]*\Z", name)
                self.assertFalse(hasattr(builtins, bound), f"{name}: {bound}")
            for node in ast.walk(tree):
                if isinstance(node, ast.Name):
                    self.assertIn(node.id, own | BUILTINS, f"{name}:{node.lineno}")

    def test_methods(self):
        own = set()
        for where, node in self.walk(ast.ClassDef):
            own |= {inner.name for inner in node.body if isinstance(inner, ast.FunctionDef)}
        for where, node in self.walk(ast.Attribute):
            if isinstance(node.ctx, ast.Store):
                own.add(node.attr)
        for where, node in self.walk(ast.Attribute):
            self.assertIn(node.attr, own | METHODS, where)

    def test_classes(self):
        methods, values = set(), set()
        for where, node in self.walk(ast.ClassDef):
            self.assertLessEqual(len(node.bases), 1, where)
            names = []
            for inner in node.body:
                self.assertIsInstance(inner, (ast.FunctionDef, ast.Pass, ast.Expr), where)
                if isinstance(inner, ast.FunctionDef):
                    names.append(inner.name)
            self.assertEqual(len(names), len(set(names)), where)
            methods |= set(names) - SPECIAL
        for where, node in self.walk(ast.Attribute):
            if isinstance(node.ctx, ast.Store):
                self.assertIsInstance(node.value, ast.Name, where)
                values.add(node.attr)
        self.assertEqual(methods & values, set())
        for name in methods | values:
            for value in ("", 0, [], (), {}, set(), b""):
                self.assertFalse(hasattr(value, name), name)

    def test_no_local_is_called_like_an_import_or_class(self):
        for name, tree in self.trees.items():
            taken = set()
            for top in tree.body:
                if isinstance(top, ast.ImportFrom):
                    taken |= {alias.name for alias in top.names}
                elif isinstance(top, ast.ClassDef):
                    taken.add(top.name)
            for node in ast.walk(tree):
                if isinstance(node, ast.arg):
                    self.assertNotIn(node.arg, taken, f"{name}:{node.lineno}")
                elif isinstance(node, ast.Name) and isinstance(node.ctx, ast.Store):
                    self.assertNotIn(node.id, taken, f"{name}:{node.lineno}")

    def test_walked_at_once(self):
        walked = {"zip", "enumerate", "reversed", "range"}
        takers = {"list", "tuple", "dict", "sorted", "sum", "any", "all", "enumerate", "zip", "min", "max"}
        fine = set()
        for where, node in self.walk(ast.For, ast.comprehension):
            fine.add(node.iter)
        for where, node in self.walk(ast.Call):
            if isinstance(node.func, ast.Name) and node.func.id in takers and node.args:
                fine.add(node.args[0])
        for where, node in self.walk(ast.Call):
            if isinstance(node.func, ast.Name) and node.func.id in walked:
                self.assertIn(node, fine, where)

    def test_no_two_files_draw_from_one_another(self):
        drawn = {name: set() for name in self.trees}
        for where, node in self.walk(ast.ImportFrom):
            drawn[where.partition(":")[0]].add(node.module.partition(".")[2] + ".py")
        while drawn:
            free = [name for name, files in drawn.items() if not files & set(drawn)]
            self.assertTrue(free, drawn)
            for name in free:
                drawn.pop(name)


if __name__ == "__main__":
    unittest.main()
