"""The package keeps to a small part of Python: the rules of it that a walk over the sources can see."""

import ast
import builtins
import re
import unittest
from pathlib import Path

PACKAGE = Path(__file__).resolve().parent.parent / "canonwheel"
SOURCES = sorted(path for path in PACKAGE.rglob("*") if "__pycache__" not in path.parts)

STATEMENTS = (
    ast.FunctionDef, ast.ClassDef, ast.Assign, ast.AugAssign, ast.If, ast.While, ast.For, ast.Return, ast.Break,
    ast.Continue, ast.Pass, ast.Raise, ast.Try, ast.Expr, ast.ImportFrom,
)
EXPRESSIONS = (
    ast.Constant, ast.List, ast.Tuple, ast.Dict, ast.Set, ast.BinOp, ast.UnaryOp, ast.BoolOp, ast.Compare, ast.IfExp,
    ast.Call, ast.Attribute, ast.Subscript, ast.Slice, ast.ListComp, ast.JoinedStr, ast.FormattedValue, ast.Name,
    ast.Lambda,
)
OWN_NAMES = set(
    "len range enumerate zip min max sum abs sorted reversed int str bool list tuple dict set frozenset isinstance ord "
    "repr any all divmod Exception ValueError TypeError KeyError IndexError LookupError ZeroDivisionError "
    "ArithmeticError OverflowError RuntimeError NotImplementedError AttributeError StopIteration".split()
)
METHODS = set(
    "append clear copy count endswith extend find get index insert isalnum isalpha isdigit islower isspace isupper "
    "items join keys ljust lower lstrip partition pop remove replace reverse rfind rjust rpartition rsplit rstrip "
    "setdefault split splitlines startswith strip update upper values zfill bit_length".split()
)
WORDS_LEFT_OUT = re.compile(
    r"\b(type|typing|typing_extensions|enum|Enum|IntEnum|StrEnum|Flag|IntFlag|Generic|Protocol|ABC|ABCMeta|namedtuple"
    r"|NamedTuple|TypedDict|TYPE_CHECKING|abstractmethod)\b|dataclass|overload|contextmanager"
)


def trees():
    return [(path.name, ast.parse(path.read_text(encoding="utf-8"))) for path in SOURCES]


def bound_names(tree):
    names = []
    for node in ast.walk(tree):
        if isinstance(node, (ast.FunctionDef, ast.ClassDef)):
            names.append(node.name)
        if isinstance(node, ast.arg):
            names.append(node.arg)
        if isinstance(node, ast.Name) and isinstance(node.ctx, ast.Store):
            names.append(node.id)
    return names


class Form(unittest.TestCase):
    def test_files(self):
        for path in SOURCES:
            self.assertTrue(path.is_file() and re.fullmatch(r"[a-z0-9_]+\.py", path.name), path)
        self.assertIn("__init__.py", [path.name for path in SOURCES])

    def test_signs_words_and_sizes(self):
        for path in SOURCES:
            text = path.read_text(encoding="utf-8")
            self.assertRegex(text, r"\A[ -~\n]*\Z", path)
            self.assertIsNone(WORDS_LEFT_OUT.search(text), path)
            self.assertLessEqual(len(text.splitlines()), 400, path)
            self.assertLessEqual(max(len(line) for line in text.splitlines()), 120, path)

    def test_imports(self):
        for name, tree in trees():
            for node in ast.walk(tree):
                if isinstance(node, ast.ImportFrom):
                    self.assertIn(node, tree.body, name)
                    self.assertEqual(node.level, 0, name)
                    self.assertRegex(node.module, r"\Acanonwheel\.[a-z_]+\Z", name)
                    self.assertNotIn("*", [alias.name for alias in node.names], name)

    def test_statements_and_expressions(self):
        for name, tree in trees():
            for node in ast.walk(tree):
                where = (name, getattr(node, "lineno", 0), node)
                if isinstance(node, ast.stmt):
                    self.assertIsInstance(node, STATEMENTS, where)
                if isinstance(node, ast.expr):
                    self.assertIsInstance(node, EXPRESSIONS, where)
                if isinstance(node, ast.Assign):
                    self.assertEqual(len(node.targets), 1, where)
                if isinstance(node, (ast.For, ast.While)):
                    self.assertEqual(node.orelse, [], where)
                if isinstance(node, ast.ListComp):
                    self.assertEqual(len(node.generators), 1, where)
                    self.assertLessEqual(len(node.generators[0].ifs), 1, where)
                if isinstance(node, ast.Constant):
                    self.assertNotIsInstance(node.value, (float, bytes, complex), where)
                self.assertNotIsInstance(node, ast.Div, where)

    def test_functions_and_classes(self):
        for name, tree in trees():
            for node in ast.walk(tree):
                if isinstance(node, ast.FunctionDef):
                    self.assertLessEqual(node.end_lineno - node.lineno + 1, 40, (name, node.name))
                    self.assertEqual(node.decorator_list, [], (name, node.name))
                    self.assertIsNone(node.args.vararg or node.args.kwarg, (name, node.name))
                    self.assertEqual(node.args.kwonlyargs, [], (name, node.name))
                if isinstance(node, ast.ClassDef):
                    self.assertIn(node, tree.body, (name, node.name))
                    self.assertLessEqual(len(node.bases), 1, (name, node.name))
                    self.assertEqual(node.decorator_list, [], (name, node.name))

    def test_the_top_of_a_file(self):
        for name, tree in trees():
            bound = []
            for node in tree.body:
                self.assertIsInstance(node, (ast.ImportFrom, ast.FunctionDef, ast.ClassDef, ast.Assign, ast.Expr), name)
                if isinstance(node, ast.Expr):
                    self.assertIs(node, tree.body[0], name)
                    self.assertIsInstance(node.value, ast.Constant, name)
                if isinstance(node, ast.ImportFrom):
                    bound += [alias.asname or alias.name for alias in node.names]
                if isinstance(node, (ast.FunctionDef, ast.ClassDef)):
                    bound.append(node.name)
                if isinstance(node, ast.Assign):
                    bound.append(node.targets[0].id)
                    self.check_plain_value(name, node.value)
            self.assertEqual(len(bound), len(set(bound)), name)

    def check_plain_value(self, name, value):
        inner = [node for node in ast.walk(value) if isinstance(node, ast.expr) and node is not value]
        self.assertIsInstance(value, (ast.Constant, ast.List, ast.Tuple, ast.Dict), name)
        for node in inner:
            self.assertIsInstance(node, (ast.Constant, ast.Tuple, ast.Name), name)

    def test_no_local_is_called_like_a_class_or_an_import(self):
        for name, tree in trees():
            taken = {node.name for node in tree.body if isinstance(node, ast.ClassDef)}
            for node in tree.body:
                if isinstance(node, ast.ImportFrom):
                    taken.update(alias.name for alias in node.names)
            for node in [node for node in tree.body if isinstance(node, (ast.FunctionDef, ast.ClassDef))]:
                self.assertEqual(taken & set(bound_names(node)) - {node.name}, set(), name)

    def test_imports_come_from_where_a_name_is_defined(self):
        defined = {}
        for name, tree in trees():
            own = [node.name for node in tree.body if isinstance(node, (ast.FunctionDef, ast.ClassDef))]
            own += [node.targets[0].id for node in tree.body if isinstance(node, ast.Assign)]
            defined["canonwheel." + name.removesuffix(".py")] = own
        for name, tree in trees():
            for node in tree.body:
                if isinstance(node, ast.ImportFrom):
                    for alias in node.names:
                        self.assertIn(alias.name, defined[node.module], name)

    def test_class_bodies(self):
        for name, tree in trees():
            for node in [node for node in tree.body if isinstance(node, ast.ClassDef)]:
                for part in node.body:
                    self.assertIsInstance(part, (ast.FunctionDef, ast.Pass, ast.Expr), (name, node.name))

    def test_no_name_is_a_method_and_a_value(self):
        methods = set()
        values = set()
        for name, tree in trees():
            for node in ast.walk(tree):
                if isinstance(node, ast.ClassDef):
                    methods.update(part.name for part in node.body if isinstance(part, ast.FunctionDef))
                if isinstance(node, ast.Attribute) and isinstance(node.ctx, ast.Store):
                    values.add(node.attr)
        self.assertEqual(methods & values, set())
        for own in methods | values:
            for kind in (int, str, list, dict, set, bytes):
                self.assertFalse(hasattr(kind, own) and own != "__init__", own)

    def test_names(self):
        for name, tree in trees():
            for bound in bound_names(tree):
                self.assertRegex(bound, r"\A([A-Za-z][A-Za-z0-9_]*|__(init|eq|repr|str|len)__)\Z", name)
                self.assertFalse(bound != "__init__" and hasattr(builtins, bound), (name, bound))
            for node in ast.walk(tree):
                if isinstance(node, ast.Name) and hasattr(builtins, node.id):
                    self.assertIn(node.id, OWN_NAMES, (name, node.lineno))

    def test_methods(self):
        methods = set(METHODS)
        for name, tree in trees():
            for node in ast.walk(tree):
                if isinstance(node, ast.ClassDef):
                    methods.update(part.name for part in node.body if isinstance(part, ast.FunctionDef))
        for name, tree in trees():
            for node in ast.walk(tree):
                if isinstance(node, ast.Call) and isinstance(node.func, ast.Attribute):
                    self.assertIn(node.func.attr, methods, (name, node.lineno))


if __name__ == "__main__":
    unittest.main()
