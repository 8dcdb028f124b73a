"""Holds the package's files against those rules of its part of Python that a tree shows plainly.

It is a net, not the rules: what passes here may still lie outside them.
"""

import ast
import builtins
import pathlib
import re
import unittest

PACKAGE = pathlib.Path(__file__).resolve().parent.parent / "leadtimes"

OWN_NAMES = set("""len range enumerate zip min max sum abs sorted reversed int str bool list tuple
dict set frozenset isinstance ord repr any all divmod Exception ValueError TypeError KeyError
IndexError LookupError ZeroDivisionError ArithmeticError OverflowError RuntimeError
NotImplementedError AttributeError StopIteration""".split())

NODES = set("""Module FunctionDef ClassDef Return Assign AugAssign For While If Raise Try ImportFrom
Expr Pass Break Continue BoolOp BinOp UnaryOp Lambda IfExp Dict Set ListComp Compare Call JoinedStr
FormattedValue Constant Attribute Subscript Name List Tuple Slice comprehension ExceptHandler
arguments arg keyword alias Load Store Add Sub Mult FloorDiv Mod Pow BitAnd BitOr BitXor LShift
RShift Invert And Or Not UAdd USub Eq NotEq Lt LtE Gt GtE Is IsNot In NotIn""".split())

METHODS = {"__init__", "__eq__", "__repr__", "__str__", "__len__"}

WORDS = re.compile(r"\b(type|typing|typing_extensions|enum|Enum|IntEnum|StrEnum|Flag|IntFlag"
                   r"|Generic|Protocol|ABC|ABCMeta|namedtuple|NamedTuple|TypedDict|TYPE_CHECKING"
                   r"|abstractmethod)\b|dataclass|overload|contextmanager")


def files():
    return sorted(PACKAGE.rglob("*.py"))


def nodes(of):
    """All nodes of the files, of the classes told, each with where it stands."""
    for path in files():
        for node in ast.walk(ast.parse(path.read_text())):
            if isinstance(node, of):
                yield node, (path.name, getattr(node, "lineno", 0))


def bound_names():
    for node, where in nodes((ast.Name, ast.arg, ast.FunctionDef, ast.ClassDef)):
        if isinstance(node, ast.Name):
            if isinstance(node.ctx, ast.Store):
                yield node.id, where
        else:
            yield node.arg if isinstance(node, ast.arg) else node.name, where


class Files(unittest.TestCase):
    def test_nothing_else_lies_in_the_package(self):
        for path in PACKAGE.rglob("*"):
            if "__pycache__" not in path.parts and path.name != "__pycache__":
                self.assertRegex(path.name, r"\A([a-z][a-z0-9_]*|__init__|__main__)\.py\Z")

    def test_signs_and_sizes(self):
        for path in files():
            rows = path.read_bytes().decode("ascii").split("\n")
            self.assertLessEqual(len(rows), 401, path.name)
            for at, row in enumerate(rows, start=1):
                self.assertRegex(row, r"\A[ -~]{0,120}\Z", (path.name, at))
                self.assertNotRegex(row, WORDS, (path.name, at))

    def test_functions_are_short(self):
        for node, where in nodes(ast.FunctionDef):
            self.assertLessEqual(node.end_lineno - node.lineno + 1, 40, where)


class Tree(unittest.TestCase):
    def test_statements_and_expressions(self):
        for node, where in nodes(ast.AST):
            self.assertIn(type(node).__name__, NODES, where)

    def test_plain_values(self):
        for node, where in nodes(ast.Constant):
            self.assertIn(type(node.value), (int, str, bool, type(None)), where)

    def test_imports(self):
        for node, where in nodes(ast.ImportFrom):
            self.assertEqual(node.level, 0, where)
            self.assertTrue(node.module.startswith("leadtimes."), where)
            self.assertTrue((PACKAGE / (node.module.split(".")[1] + ".py")).is_file(), where)

    def test_functions_have_plain_parameters_and_no_decorator(self):
        for node, where in nodes((ast.FunctionDef, ast.ClassDef)):
            self.assertEqual(node.decorator_list, [], where)
        for node, where in nodes(ast.arguments):
            self.assertEqual((node.vararg, node.kwarg, node.kwonlyargs, node.posonlyargs),
                             (None, None, [], []), where)

    def test_one_target_and_nothing_behind_a_loop(self):
        for node, where in nodes(ast.Assign):
            self.assertEqual(len(node.targets), 1, where)
        for node, where in nodes((ast.For, ast.While)):
            self.assertEqual(node.orelse, [], where)
        for node, where in nodes(ast.Try):
            self.assertEqual(node.finalbody, [], where)

    def test_is_stands_beside_none_and_truths_alone(self):
        for node, where in nodes(ast.Compare):
            for sign, right in zip(node.ops, node.comparators):
                if isinstance(sign, (ast.Is, ast.IsNot)):
                    self.assertIn(getattr(right, "value", ()), (None, True, False), where)


class Names(unittest.TestCase):
    def test_names_of_pythons_own(self):
        for node, where in nodes(ast.Name):
            if node.id in dir(builtins):
                self.assertIn(node.id, OWN_NAMES, where)

    def test_bound_names_are_plain_and_not_pythons_own(self):
        for name, where in bound_names():
            if name not in METHODS:
                self.assertRegex(name, r"\A[A-Za-z][A-Za-z0-9_]*\Z", where)
                self.assertNotIn(name, OWN_NAMES, where)


if __name__ == "__main__":
    unittest.main()
