"""Holds the package's files against those rules of the language that a look at the tree can see."""

import ast
import builtins
import re
import unittest
from pathlib import Path

PACKAGE = Path(__file__).resolve().parent.parent / "sumtimes"

STATEMENTS = """Module ImportFrom FunctionDef ClassDef Return Assign AugAssign For While If Raise Try
Pass Break Continue Expr ExceptHandler alias arguments arg keyword"""
EXPRESSIONS = """BoolOp And Or BinOp Add Sub Mult FloorDiv Mod Pow BitAnd BitOr BitXor LShift RShift
UnaryOp Not USub Invert Compare Eq NotEq Lt LtE Gt GtE Is IsNot In NotIn IfExp Call Attribute
Subscript Slice Name Load Store Constant List Tuple Dict ListComp comprehension Lambda JoinedStr
FormattedValue"""
NODES = (STATEMENTS + " " + EXPRESSIONS).split()

OWN_NAMES = """len range enumerate zip min max sum abs sorted reversed int str bool list tuple dict
set frozenset isinstance ord repr any all divmod Exception ValueError TypeError KeyError IndexError
LookupError ZeroDivisionError ArithmeticError OverflowError RuntimeError NotImplementedError
AttributeError StopIteration""".split()

METHODS = """append clear copy count endswith extend find get index insert isalnum isalpha isdigit
islower isspace isupper items join keys ljust lower lstrip partition pop remove replace reverse rfind
rjust rpartition rsplit rstrip setdefault split splitlines startswith strip update upper values zfill
bit_length""".split()

WORDS_OUT = re.compile(
    r"\b(type|typing|typing_extensions|enum|Enum|IntEnum|StrEnum|Flag|IntFlag|Generic|Protocol|ABC"
    r"|ABCMeta|namedtuple|NamedTuple|TypedDict|TYPE_CHECKING|abstractmethod)\b"
    r"|dataclass|overload|contextmanager"
)
PLAIN_NAME = re.compile(r"[A-Za-z][A-Za-z0-9_]*\Z")


def sources():
    return sorted(PACKAGE.glob("*.py"))


def trees():
    return [(path.name, ast.parse(path.read_text())) for path in sources()]


def bound_names(tree):
    for node in ast.walk(tree):
        if isinstance(node, (ast.FunctionDef, ast.ClassDef)):
            yield node.name
        elif isinstance(node, ast.arg):
            yield node.arg
        elif isinstance(node, ast.Name) and isinstance(node.ctx, ast.Store):
            yield node.id
        elif isinstance(node, ast.alias):
            yield node.asname or node.name
        elif isinstance(node, ast.ExceptHandler) and node.name:
            yield node.name


class Files(unittest.TestCase):
    def test_only_plain_python_files_lie_in_the_package(self):
        for path in PACKAGE.iterdir():
            if path.name != "__pycache__":
                self.assertRegex(path.name, r"\A(__init__|[a-z][a-z0-9_]*)\.py\Z")

    def test_signs_and_lengths(self):
        for path in sources():
            text = path.read_bytes().decode("utf-8")
            self.assertRegex(text, r"\A[ -~\n]*\Z", path.name)
            lines = text.split("\n")
            self.assertLessEqual(len(lines), 400, path.name)
            self.assertLessEqual(max(len(line) for line in lines), 120, path.name)

    def test_words_that_stand_nowhere(self):
        for path in sources():
            self.assertIsNone(WORDS_OUT.search(path.read_text()), path.name)


class Trees(unittest.TestCase):
    def test_only_the_nodes_of_the_language(self):
        for name, tree in trees():
            for node in ast.walk(tree):
                self.assertIn(type(node).__name__, NODES, (name, getattr(node, "lineno", None)))

    def test_the_top_of_a_file(self):
        for name, tree in trees():
            self.assertIsNotNone(ast.get_docstring(tree), name)
            for node in tree.body[1:]:
                self.assertIsInstance(node, (ast.ImportFrom, ast.FunctionDef, ast.ClassDef, ast.Assign))

    def test_imports_are_the_packages_own(self):
        for name, tree in trees():
            for node in ast.walk(tree):
                if isinstance(node, ast.ImportFrom):
                    self.assertEqual(node.level, 0, name)
                    self.assertTrue((PACKAGE / (node.module.removeprefix("sumtimes.") + ".py")).exists(), name)
                    self.assertTrue(node.module.startswith("sumtimes."), name)
                    self.assertNotIn("*", [each.name for each in node.names], name)

    def test_names(self):
        for name, tree in trees():
            bound = list(bound_names(tree))
            for each in bound:
                self.assertRegex(each, PLAIN_NAME, name)
                self.assertNotIn(each, dir(builtins), name)
            for node in ast.walk(tree):
                if isinstance(node, ast.Name):
                    self.assertIn(node.id, OWN_NAMES + bound, name)

    def test_each_name_is_bound_once_at_the_top(self):
        for name, tree in trees():
            top = [each for node in tree.body for each in top_names(node)]
            self.assertEqual(len(top), len(set(top)), name)
            for node in ast.walk(tree):
                if isinstance(node, ast.FunctionDef):
                    for inner in ast.walk(node):
                        if isinstance(inner, ast.arg):
                            self.assertNotIn(inner.arg, top, name)
                        if isinstance(inner, ast.Name) and isinstance(inner.ctx, ast.Store):
                            self.assertNotIn(inner.id, top, name)

    def test_functions(self):
        for name, tree in trees():
            for node in ast.walk(tree):
                if isinstance(node, ast.FunctionDef):
                    self.assertLessEqual(node.end_lineno - node.lineno + 1, 40, (name, node.name))
                    self.assertEqual(node.decorator_list, [], (name, node.name))
                    rest = (node.args.vararg, node.args.kwarg, node.args.kwonlyargs, node.args.posonlyargs)
                    self.assertEqual(rest, (None, None, [], []), (name, node.name))

    def test_methods(self):
        for name, tree in trees():
            for node in ast.walk(tree):
                if isinstance(node, ast.Attribute):
                    self.assertIn(node.attr, METHODS, (name, node.lineno))

    def test_values(self):
        for name, tree in trees():
            for node in ast.walk(tree):
                if isinstance(node, ast.Constant):
                    self.assertIn(type(node.value), (int, str, bool, type(None)), (name, node.lineno))
                    self.assertNotIn("%", str(node.value), (name, node.lineno))
                if isinstance(node, ast.Assign):
                    self.assertEqual(len(node.targets), 1, (name, node.lineno))
                if isinstance(node, ast.comprehension):
                    self.assertLessEqual(len(node.ifs), 1, name)
                if isinstance(node, ast.ListComp):
                    self.assertEqual(len(node.generators), 1, (name, node.lineno))
                if isinstance(node, (ast.For, ast.While)):
                    self.assertEqual(node.orelse, [], (name, node.lineno))


def top_names(node):
    if isinstance(node, ast.ImportFrom):
        return [each.name for each in node.names]
    if isinstance(node, (ast.FunctionDef, ast.ClassDef)):
        return [node.name]
    if isinstance(node, ast.Assign):
        return [target.id for target in node.targets]
    return []


if __name__ == "__main__":
    unittest.main()
