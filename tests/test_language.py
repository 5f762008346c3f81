"""Holds the package's files against those rules of the language that a look at the tree can see."""

import ast
import builtins
import re
import unittest
from pathlib import Path

PACKAGE = Path(__file__).resolve().parent.parent / "sumtimes"

STATEMENTS = """Module ImportFrom FunctionDef ClassDef Return Assign AugAssign For While If Raise Try
Pass Break Continue Expr ExceptHandler alias arguments arg keyword"""
EXPRESSIONS = """BoolOp And Or BinOp Add Sub Mult FloorDiv Mod Pow BitAnd BitOr BitXor LShift RShift
UnaryOp Not USub Invert Compare Eq NotEq Lt LtE Gt GtE Is IsNot In NotIn IfExp Call Attribute
Subscript Slice Name Load Store Constant List Tuple Dict ListComp comprehension Lambda JoinedStr
FormattedValue"""
NODES = (STATEMENTS + " " + EXPRESSIONS).split()

OWN_NAMES = """len range enumerate zip min max sum abs sorted reversed int str bool list tuple dict
set frozenset isinstance ord repr any all divmod Exception ValueError TypeError KeyError IndexError
LookupError ZeroDivisionError ArithmeticError OverflowError RuntimeError NotImplementedError
AttributeError StopIteration""".split()

METHODS = """append clear copy count endswith extend find get index insert isalnum isalpha isdigit
islower isspace isupper items join keys ljust lower lstrip partition pop remove replace reverse rfind
rjust rpartition rsplit rstrip setdefault split splitlines startswith strip update upper values zfill
bit_length""".split()

WORDS_OUT = re.compile(
    r"\b(type|typing|typing_extensions|enum|Enum|IntEnum|StrEnum|Flag|IntFlag|Generic|Protocol|ABC"
    r"|ABCMeta|namedtuple|NamedTuple|TypedDict|TYPE_CHECKING|abstractmethod)\b"
    r"|dataclass|overload|contextmanager"
)
NAMES_OUT = """register mro elements open input version_info with_traceback add_note attrgetter breakpoint
builtins compile copyright credits delattr dir eval exec exit gc getattr globals hasattr help id importlib
license locals methodcaller os quit setattr super type vars sys format format_map sort""".split()
WALKED_AT_ONCE = ("zip", "enumerate", "reversed", "range", "items", "keys", "values")
PLAIN_NAME = re.compile(r"[A-Za-z][A-Za-z0-9_]*\Z")


def sources():
    return sorted(PACKAGE.glob("*.py"))


def trees():
    return [(path.name, ast.parse(path.read_text())) for path in sources()]


def bound_names(tree):
    for node in ast.walk(tree):
        if isinstance(node, (ast.FunctionDef, ast.ClassDef)):
            yield node.name
        elif isinstance(node, ast.arg):
            yield node.arg
        elif isinstance(node, ast.Name) and isinstance(node.ctx, ast.Store):
            yield node.id
        elif isinstance(node, ast.alias):
            yield node.asname or node.name
        elif isinstance(node, ast.ExceptHandler) and node.name:
            yield node.name


class Files(unittest.TestCase):
    def test_only_plain_python_files_lie_in_the_package(self):
        for path in PACKAGE.iterdir():
            if path.name != "__pycache__":
                self.assertRegex(path.name, r"\A(__init__|[a-z][a-z0-9_]*)\.py\Z")

    def test_signs_and_lengths(self):
        for path in sources():
            text = path.read_bytes().decode("utf-8")
            self.assertRegex(text, r"\A[ -~\n]*\Z", path.name)
            lines = text.split("\n")
            self.assertLessEqual(len(lines), 400, path.name)
            self.assertLessEqual(max(len(line) for line in lines), 120, path.name)

    def test_words_that_stand_nowhere(self):
        for path in sources():
            self.assertIsNone(WORDS_OUT.search(path.read_text()), path.name)


class Trees(unittest.TestCase):
    def test_only_the_nodes_of_the_language(self):
        for name, tree in trees():
            for node in ast.walk(tree):
                self.assertIn(type(node).__name__, NODES, (name, getattr(node, "lineno", None)))

    def test_the_top_of_a_file(self):
        for name, tree in trees():
            self.assertIsNotNone(ast.get_docstring(tree), name)
            for node in tree.body[1:]:
                self.assertIsInstance(node, (ast.ImportFrom, ast.FunctionDef, ast.ClassDef, ast.Assign))

    def test_imports_are_the_packages_own(self):
        for name, tree in trees():
            for node in ast.walk(tree):
                if isinstance(node, ast.ImportFrom):
                    self.assertEqual(node.level, 0, name)
                    self.assertTrue((PACKAGE / (node.module.removeprefix("sumtimes.") + ".py")).exists(), name)
                    self.assertTrue(node.module.startswith("sumtimes."), name)
                    self.assertNotIn("*", [each.name for each in node.names], name)

    def test_names(self):
        for name, tree in trees():
            bound = list(bound_names(tree))
            for each in bound:
                self.assertRegex(each, PLAIN_NAME, name)
                self.assertNotIn(each, dir(builtins), name)
            for node in ast.walk(tree):
                if isinstance(node, ast.Name):
                    self.assertIn(node.id, OWN_NAMES + bound, name)

    def test_each_name_is_bound_once_at_the_top(self):
        for name, tree in trees():
            top = [each for node in tree.body for each in top_names(node)]
            self.assertEqual(len(top), len(set(top)), name)
            for node in ast.walk(tree):
                if isinstance(node, ast.FunctionDef):
                    for inner in ast.walk(node):
                        if isinstance(inner, ast.arg):
                            self.assertNotIn(inner.arg, top, name)
                        if isinstance(inner, ast.Name) and isinstance(inner.ctx, ast.Store):
                            self.assertNotIn(inner.id, top, name)

    def test_names_that_are_not_used(self):
        for name, tree in trees():
            for each in bound_names(tree):
                self.assertNotIn(each, NAMES_OUT, name)

    def test_names_are_drawn_from_the_file_that_defines_them(self):
        for name, tree in trees():
            for module, each in drawn(tree):
                self.assertIn(each, defined_in(module), name)

    def test_no_two_files_draw_from_one_another(self):
        sources_of = {name.removesuffix(".py"): {module for module, each in drawn(tree)} for name, tree in trees()}
        while sources_of:
            free = [name for name, modules in sources_of.items() if not modules & set(sources_of)]
            self.assertNotEqual(free, [], sources_of)
            for name in free:
                sources_of.pop(name)

    def test_is_stands_beside_none_true_and_false_alone(self):
        for name, tree in trees():
            for node in ast.walk(tree):
                if isinstance(node, ast.Compare) and isinstance(node.ops[0], (ast.Is, ast.IsNot)):
                    self.assertIsInstance(node.comparators[0], ast.Constant, (name, node.lineno))
                    self.assertIn(repr(node.comparators[0].value), ("None", "True", "False"), (name, node.lineno))

    def test_what_is_walked_at_once_is_not_kept(self):
        for name, tree in trees():
            for node in ast.walk(tree):
                if isinstance(node, (ast.Assign, ast.Return)) and isinstance(node.value, ast.Call):
                    called = node.value.func
                    word = called.id if isinstance(called, ast.Name) else called.attr
                    self.assertNotIn(word, WALKED_AT_ONCE, (name, node.lineno))

    def test_files_keep_nothing_that_changes(self):
        for name, tree in trees():
            for node in tree.body:
                if isinstance(node, ast.Assign):
                    self.assertIsInstance(node.value, (ast.Constant, ast.Tuple), (name, node.lineno))

    def test_functions(self):
        for name, tree in trees():
            for node in ast.walk(tree):
                if isinstance(node, ast.FunctionDef):
                    self.assertLessEqual(node.end_lineno - node.lineno + 1, 40, (name, node.name))
                    self.assertEqual(node.decorator_list, [], (name, node.name))
                    rest = (node.args.vararg, node.args.kwarg, node.args.kwonlyargs, node.args.posonlyargs)
                    self.assertEqual(rest, (None, None, [], []), (name, node.name))

    def test_methods(self):
        for name, tree in trees():
            for node in ast.walk(tree):
                if isinstance(node, ast.Attribute):
                    self.assertIn(node.attr, METHODS, (name, node.lineno))

    def test_values(self):
        for name, tree in trees():
            for node in ast.walk(tree):
                if isinstance(node, ast.Constant):
                    self.assertIn(type(node.value), (int, str, bool, type(None)), (name, node.lineno))
                    self.assertNotIn("%", str(node.value), (name, node.lineno))
                if isinstance(node, ast.Assign):
                    self.assertEqual(len(node.targets), 1, (name, node.lineno))
                if isinstance(node, ast.comprehension):
                    self.assertLessEqual(len(node.ifs), 1, name)
                if isinstance(node, ast.ListComp):
                    self.assertEqual(len(node.generators), 1, (name, node.lineno))
                if isinstance(node, (ast.For, ast.While)):
                    self.assertEqual(node.orelse, [], (name, node.lineno))


def drawn(tree):
    """Pairs of a file's plain name and a name that is drawn from it."""
    return [
        (node.module.removeprefix("sumtimes."), each.name)
        for node in ast.walk(tree) if isinstance(node, ast.ImportFrom) for each in node.names
    ]


def defined_in(module):
    tree = ast.parse((PACKAGE / (module + ".py")).read_text())
    return [each for node in tree.body if not isinstance(node, ast.ImportFrom) for each in top_names(node)]


def top_names(node):
    if isinstance(node, ast.ImportFrom):
        return [each.name for each in node.names]
    if isinstance(node, (ast.FunctionDef, ast.ClassDef)):
        return [node.name]
    if isinstance(node, ast.Assign):
        return [target.id for target in node.targets]
    return []


if __name__ == "__main__":
    unittest.main()
