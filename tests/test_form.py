"""Holds the package's files against those rules of its part of Python that a tree shows plainly.

It is a net, not the rules: what passes here may still lie outside them.
"""

import ast
import builtins
import pathlib
import re
import unittest

PACKAGE = pathlib.Path(__file__).resolve().parent.parent / "leadtimes"

OWN_NAMES = set("""len range enumerate zip min max sum abs sorted reversed int str bool list tuple
dict set frozenset isinstance ord repr any all divmod Exception ValueError TypeError KeyError
IndexError LookupError ZeroDivisionError ArithmeticError OverflowError RuntimeError
NotImplementedError AttributeError StopIteration""".split())

NODES = set("""Module FunctionDef ClassDef Return Assign AugAssign For While If Raise Try ImportFrom
Expr Pass Break Continue BoolOp BinOp UnaryOp Lambda IfExp Dict Set ListComp Compare Call JoinedStr
FormattedValue Constant Attribute Subscript Name List Tuple Slice comprehension ExceptHandler
arguments arg keyword alias Load Store Add Sub Mult FloorDiv Mod Pow BitAnd BitOr BitXor LShift
RShift Invert And Or Not UAdd USub Eq NotEq Lt LtE Gt GtE Is IsNot In NotIn""".split())

METHODS = {"__init__", "__eq__", "__repr__", "__str__", "__len__"}

WORDS = re.compile(r"\b(type|typing|typing_extensions|enum|Enum|IntEnum|StrEnum|Flag|IntFlag"
                   r"|Generic|Protocol|ABC|ABCMeta|namedtuple|NamedTuple|TypedDict|TYPE_CHECKING"
                   r"|abstractmethod)\b|dataclass|overload|contextmanager")

# What Python's own values offer that may be called.
OFFERED = set("""append clear copy count endswith extend find get index insert isalnum isalpha
isdigit islower isspace isupper items join keys ljust lower lstrip partition pop remove replace
reverse rfind rjust rpartition rsplit rstrip setdefault split splitlines startswith strip update
upper values zfill bit_length""".split())

KEYWORDS = {"sorted": {"key", "reverse"}, "min": {"key", "default"}, "max": {"key", "default"},
            "sum": {"start"}, "enumerate": {"start"}, "zip": {"strict"}}

WALKED = {"zip", "enumerate", "reversed", "range"}

WALKERS = {"list", "tuple", "dict", "sorted", "sum", "any", "all", "enumerate", "zip", "min",
           "max", "join"}


def files():
    return sorted(PACKAGE.rglob("*.py"))


def nodes(of):
    """All nodes of the files, of the classes told, each with where it stands."""
    for path in files():
        for node in ast.walk(ast.parse(path.read_text())):
            if isinstance(node, of):
                yield node, (path.name, getattr(node, "lineno", 0))


def bound_names():
    for node, where in nodes((ast.Name, ast.arg, ast.FunctionDef, ast.ClassDef)):
        if isinstance(node, ast.Name):
            if isinstance(node.ctx, ast.Store):
                yield node.id, where
        else:
            yield node.arg if isinstance(node, ast.arg) else node.name, where


class Files(unittest.TestCase):
    def test_nothing_else_lies_in_the_package(self):
        for path in PACKAGE.rglob("*"):
            if "__pycache__" not in path.parts and path.name != "__pycache__":
                self.assertRegex(path.name, r"\A([a-z][a-z0-9_]*|__init__|__main__)\.py\Z")

    def test_signs_and_sizes(self):
        for path in files():
            rows = path.read_bytes().decode("ascii").split("\n")
            self.assertLessEqual(len(rows), 401, path.name)
            for at, row in enumerate(rows, start=1):
                self.assertRegex(row, r"\A[ -~]{0,120}\Z", (path.name, at))
                self.assertNotRegex(row, WORDS, (path.name, at))

    def test_functions_are_short(self):
        for node, where in nodes(ast.FunctionDef):
            self.assertLessEqual(node.end_lineno - node.lineno + 1, 40, where)


class Tree(unittest.TestCase):
    def test_statements_and_expressions(self):
        for node, where in nodes(ast.AST):
            self.assertIn(type(node).__name__, NODES, where)

    def test_plain_values(self):
        for node, where in nodes(ast.Constant):
            self.assertIn(type(node.value), (int, str, bool, type(None)), where)

    def test_imports(self):
        for node, where in nodes(ast.ImportFrom):
            self.assertEqual(node.level, 0, where)
            self.assertTrue(node.module.startswith("leadtimes."), where)
            self.assertTrue((PACKAGE / (node.module.split(".")[1] + ".py")).is_file(), where)

    def test_functions_have_plain_parameters_and_no_decorator(self):
        for node, where in nodes((ast.FunctionDef, ast.ClassDef)):
            self.assertEqual(node.decorator_list, [], where)
        for node, where in nodes(ast.arguments):
            self.assertEqual((node.vararg, node.kwarg, node.kwonlyargs, node.posonlyargs),
                             (None, None, [], []), where)

    def test_one_target_and_nothing_behind_a_loop(self):
        for node, where in nodes(ast.Assign):
            self.assertEqual(len(node.targets), 1, where)
        for node, where in nodes((ast.For, ast.While)):
            self.assertEqual(node.orelse, [], where)
        for node, where in nodes(ast.Try):
            self.assertEqual(node.finalbody, [], where)

    def test_is_stands_beside_none_and_truths_alone(self):
        for node, where in nodes(ast.Compare):
            for sign, right in zip(node.ops, node.comparators):
                if isinstance(sign, (ast.Is, ast.IsNot)):
                    self.assertIn(getattr(right, "value", ()), (None, True, False), where)


class Names(unittest.TestCase):
    def test_names_of_pythons_own(self):
        for node, where in nodes(ast.Name):
            if node.id in dir(builtins):
                self.assertIn(node.id, OWN_NAMES, where)

    def test_bound_names_are_plain_and_not_pythons_own(self):
        for name, where in bound_names():
            if name not in METHODS:
                self.assertRegex(name, r"\A[A-Za-z][A-Za-z0-9_]*\Z", where)
                self.assertNotIn(name, OWN_NAMES, where)

    def test_locals_are_not_called_like_pythons_own_or_an_import_or_a_class(self):
        for path in files():
            tree = ast.parse(path.read_text())
            taken = set(dir(builtins)) | top_names(tree)
            for node in ast.walk(tree):
                name = node.arg if isinstance(node, ast.arg) else getattr(node, "id", None)
                if isinstance(getattr(node, "ctx", None), ast.Load):
                    name = None
                self.assertNotIn(name, taken, (path.name, getattr(node, "lineno", 0)))

    def test_each_name_is_bound_once_at_the_top(self):
        for path in files():
            tree = ast.parse(path.read_text())
            bound = []
            for node in tree.body:
                bound += [alias.name for alias in getattr(node, "names", [])]
                bound += [target.id for target in getattr(node, "targets", [])]
                bound += [node.name] if hasattr(node, "name") else []
            self.assertEqual(len(bound), len(set(bound)), path.name)

    def test_imports_are_from_the_very_file_and_go_in_no_circle(self):
        draws = {}
        for path in files():
            tree = ast.parse(path.read_text())
            draws[path.stem] = set()
            for node in tree.body:
                if isinstance(node, ast.ImportFrom):
                    drawn = node.module.split(".")[1]
                    draws[path.stem].add(drawn)
                    for alias in node.names:
                        self.assertIn(alias.name, defined(drawn), path.name)
                        self.assertIsNone(alias.asname, path.name)
        while draws:
            free = [name for name in draws if not draws[name] & set(draws)]
            self.assertNotEqual(free, [], draws)
            for name in free:
                del draws[name]

    def test_imported_names_are_used(self):
        for path in files():
            tree = ast.parse(path.read_text())
            used = {node.id for node in ast.walk(tree) if isinstance(node, ast.Name)}
            for node in tree.body:
                for alias in getattr(node, "names", []):
                    self.assertIn(alias.name, used, path.name)


class Objects(unittest.TestCase):
    def setUp(self):
        self.methods = {part.name for node, where in nodes(ast.ClassDef) for part in node.body
                        if isinstance(part, ast.FunctionDef)}
        self.values = {node.attr for node, where in nodes(ast.Attribute)
                       if isinstance(node.ctx, ast.Store)}

    def test_no_name_is_a_method_and_a_value(self):
        self.assertEqual(self.methods & self.values, set())

    def test_names_are_free(self):
        own = set()
        for kind in (str, int, list, dict, set, bytes, tuple, frozenset):
            own |= set(dir(kind))
        self.assertEqual((self.methods - METHODS) & own, set())
        self.assertEqual(self.values & own, set())

    def test_called_are_own_methods_and_those_offered(self):
        for node, where in nodes(ast.Call):
            if isinstance(node.func, ast.Attribute):
                self.assertIn(node.func.attr, OFFERED | self.methods, where)

    def test_methods_are_called_where_they_stand(self):
        for path in files():
            tree = ast.parse(path.read_text())
            called = {id(node.func) for node in ast.walk(tree) if isinstance(node, ast.Call)}
            for node in ast.walk(tree):
                if isinstance(node, ast.Attribute) and id(node) not in called:
                    self.assertIn(node.attr, self.values, (path.name, node.lineno))

    def test_class_bodies_hold_methods_alone(self):
        for node, where in nodes(ast.ClassDef):
            for part in node.body:
                self.assertIsInstance(part, (ast.FunctionDef, ast.Expr, ast.Pass), where)


class Calls(unittest.TestCase):
    def test_keywords(self):
        for node, where in nodes(ast.Call):
            for keyword in node.keywords:
                name = getattr(node.func, "id", None)
                self.assertIn(keyword.arg, KEYWORDS.get(name, set()), where)

    def test_what_is_walked_is_walked_on_the_spot(self):
        for path in files():
            tree = ast.parse(path.read_text())
            spots = set()
            for node in ast.walk(tree):
                if isinstance(node, (ast.For, ast.comprehension)):
                    spots.add(id(node.iter))
                if isinstance(node, ast.Call) and called_name(node) in WALKERS and node.args:
                    spots |= {id(arg) for arg in node.args}
            for node in ast.walk(tree):
                if isinstance(node, ast.Call) and called_name(node) in WALKED | {
                        "items", "keys", "values"}:
                    self.assertIn(id(node), spots, (path.name, node.lineno))

    def test_no_sets_and_no_odd_powers(self):
        for node, where in nodes((ast.Set, ast.Name, ast.BinOp)):
            self.assertNotIsInstance(node, ast.Set, where)
            self.assertNotIn(getattr(node, "id", None), ("set", "frozenset"), where)
            if isinstance(getattr(node, "op", None), ast.Pow):
                self.assertIn(getattr(node.right, "value", None), range(65), where)

    def test_texts_and_braces(self):
        for node, where in nodes((ast.Constant, ast.FormattedValue)):
            if isinstance(node, ast.FormattedValue):
                self.assertIsInstance(node.value, ast.Name, where)
                self.assertIsNone(node.format_spec, where)
            elif isinstance(node.value, str):
                self.assertNotIn("%", node.value, where)

    def test_handlers_take_own_errors_alone(self):
        for node, where in nodes(ast.ExceptHandler):
            self.assertIn(getattr(node.type, "id", None), defined("errors"), where)


def called_name(node):
    return getattr(node.func, "id", None) or getattr(node.func, "attr", None)


def defined(stem):
    tree = ast.parse((PACKAGE / f"{stem}.py").read_text())
    names = {node.name for node in tree.body if hasattr(node, "name")}
    return names | {target.id for node in tree.body for target in getattr(node, "targets", [])}


def top_names(tree):
    """The classes and the imported names of a file."""
    names = {node.name for node in tree.body if isinstance(node, ast.ClassDef)}
    return names | {alias.name for node in tree.body for alias in getattr(node, "names", [])}


if __name__ == "__main__":
    unittest.main()
