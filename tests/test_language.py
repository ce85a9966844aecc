"""The package keeps to the part of Python that LANGUAGE.md tells: the rules that a look at the files can see."""

import ast
import builtins
import os
import re
import unittest

TOP = os.path.dirname(os.path.dirname(os.path.abspath(__file__)))
PACKAGE = os.path.join(TOP, "nestturn")

STATEMENTS = (
    ast.FunctionDef, ast.ClassDef, ast.Assign, ast.AugAssign, ast.If, ast.While, ast.For, ast.Return, ast.Break,
    ast.Continue, ast.Pass, ast.Raise, ast.Try, ast.Expr, ast.ImportFrom,
)
EXPRESSIONS = (
    ast.Constant, ast.Name, ast.List, ast.Tuple, ast.Dict, ast.Set, ast.BinOp, ast.UnaryOp, ast.BoolOp, ast.Compare,
    ast.IfExp, ast.Call, ast.Attribute, ast.Subscript, ast.Slice, ast.ListComp, ast.JoinedStr, ast.FormattedValue,
    ast.Lambda,
)
OWN_NAMES = set(
    "len range enumerate zip min max sum abs sorted reversed int str bool list tuple dict set frozenset isinstance "
    "ord repr any all divmod Exception ValueError TypeError KeyError IndexError LookupError ZeroDivisionError "
    "ArithmeticError OverflowError RuntimeError NotImplementedError AttributeError StopIteration".split())
METHODS = set(
    "append clear copy count endswith extend find get index insert isalnum isalpha isdigit islower isspace isupper "
    "items join keys ljust lower lstrip partition pop remove replace reverse rfind rjust rpartition rsplit rstrip "
    "setdefault split splitlines startswith strip update upper values zfill bit_length".split())
WORDS = (
    "type typing typing_extensions enum Enum IntEnum StrEnum Flag IntFlag Generic Protocol ABC ABCMeta namedtuple "
    "NamedTuple TypedDict TYPE_CHECKING abstractmethod").split()
METHODS_WITH_UNDERSCORES = ("__init__", "__eq__", "__repr__", "__str__", "__len__")


def files_of_package():
    told = []
    for name in sorted(os.listdir(PACKAGE)):
        if name != "__pycache__":
            told.append(name)
    return told


def text_of(name):
    with open(os.path.join(PACKAGE, name), encoding="utf-8", newline="") as file:
        return file.read()


def names_bound(tree):
    told = []
    for node in ast.walk(tree):
        if isinstance(node, ast.Name) and isinstance(node.ctx, ast.Store):
            told.append(node.id)
        if isinstance(node, ast.arg):
            told.append(node.arg)
        if isinstance(node, (ast.FunctionDef, ast.ClassDef)):
            told.append(node.name)
    return told


class Language(unittest.TestCase):
    def trees(self):
        return [(name, ast.parse(text_of(name))) for name in files_of_package()]

    def nodes(self):
        for name, tree in self.trees():
            for node in ast.walk(tree):
                yield f"{name}:{getattr(node, 'lineno', 0)}", node

    def test_files(self):
        self.assertIn("__init__.py", files_of_package())
        for name in files_of_package():
            self.assertRegex(name, r"^([a-z][a-z0-9_]*|__init__|__main__)\.py$")

    def test_signs_and_sizes(self):
        for name in files_of_package():
            rows = text_of(name).split("\n")
            self.assertLessEqual(len(rows), 400, name)
            for number, row in enumerate(rows, start=1):
                self.assertRegex(row, r"^[ -~]{0,120}$", f"{name}:{number}")

    def test_functions_have_at_most_forty_lines(self):
        for where, node in self.nodes():
            if isinstance(node, ast.FunctionDef):
                self.assertLessEqual(node.end_lineno - node.lineno + 1, 40, where)

    def test_words_that_stand_nowhere(self):
        for name in files_of_package():
            found = set(re.findall(r"\w+", text_of(name)))
            self.assertEqual(found & set(WORDS), set(), name)
            self.assertNotRegex(text_of(name), "dataclass|overload|contextmanager")

    def test_imports_are_from_the_files_that_define(self):
        drawn = {}
        for name, tree in self.trees():
            drawn[name] = []
            for node in ast.walk(tree):
                self.assertNotIsInstance(node, ast.Import, name)
                if isinstance(node, ast.ImportFrom):
                    self.assertIn(node, tree.body, name)
                    self.assertEqual(node.level, 0, name)
                    self.assertTrue(node.module.startswith("nestturn."), name)
                    source = node.module.split(".")[1] + ".py"
                    drawn[name].append(source)
                    defined = names_bound(ast.parse(text_of(source)))
                    for alias in node.names:
                        self.assertIn(alias.name, defined, name)
        self.assertEqual(drawn["__init__.py"], [])
        while drawn:
            ready = [name for name in drawn if not any(source in drawn for source in drawn[name])]
            self.assertTrue(ready, f"files draw from one another: {sorted(drawn)}")
            for name in ready:
                drawn.pop(name)

    def test_statements_and_expressions(self):
        for where, node in self.nodes():
            if isinstance(node, ast.stmt):
                self.assertIsInstance(node, STATEMENTS, where)
            if isinstance(node, ast.expr):
                self.assertIsInstance(node, EXPRESSIONS, where)
            if isinstance(node, ast.Expr) and not isinstance(node.value, ast.Call):
                self.assertIsInstance(node.value, ast.Constant, where)
            if isinstance(node, ast.Assign):
                self.assertEqual(len(node.targets), 1, where)
            if isinstance(node, (ast.For, ast.While)):
                self.assertEqual(node.orelse, [], where)
            if isinstance(node, ast.ListComp):
                self.assertEqual(len(node.generators), 1, where)
                self.assertLessEqual(len(node.generators[0].ifs), 1, where)
            if isinstance(node, ast.Constant):
                self.assertIsInstance(node.value, (int, str, type(None)), where)
            if isinstance(node, ast.operator):
                self.assertNotIsInstance(node, (ast.Div, ast.MatMult), where)

    def test_functions_and_classes_are_plain(self):
        for where, node in self.nodes():
            if isinstance(node, (ast.FunctionDef, ast.ClassDef)):
                self.assertEqual(node.decorator_list, [], where)
            if isinstance(node, ast.arguments):
                self.assertIsNone(node.vararg or node.kwarg, where)
                self.assertEqual(node.kwonlyargs + node.posonlyargs, [], where)
            if isinstance(node, ast.ClassDef):
                self.assertLessEqual(len(node.bases), 1, where)

    def test_exponents_are_written(self):
        for where, node in self.nodes():
            if isinstance(node, ast.BinOp) and isinstance(node.op, ast.Pow):
                self.assertIsInstance(node.right, ast.Constant, where)
                self.assertIn(node.right.value, range(65), where)

    def test_is_stands_beside_none_and_truths(self):
        for where, node in self.nodes():
            if isinstance(node, ast.Compare) and any(isinstance(sign, (ast.Is, ast.IsNot)) for sign in node.ops):
                sides = [node.left] + node.comparators
                self.assertTrue(
                    any(isinstance(side, ast.Constant) and side.value in (None, True, False) for side in sides), where)

    def test_names(self):
        for name, tree in self.trees():
            for bound in names_bound(tree):
                if bound not in METHODS_WITH_UNDERSCORES:
                    self.assertRegex(bound, r"^[A-Za-z][A-Za-z0-9_]*$", name)
                    self.assertFalse(hasattr(builtins, bound), f"{name}: {bound}")

    def test_names_of_pythons_own(self):
        for where, node in self.nodes():
            if isinstance(node, ast.Name) and hasattr(builtins, node.id):
                self.assertIn(node.id, OWN_NAMES, where)

    def test_methods_that_are_called(self):
        own = set()
        for name, tree in self.trees():
            for node in ast.walk(tree):
                if isinstance(node, ast.ClassDef):
                    own |= {part.name for part in node.body if isinstance(part, ast.FunctionDef)}
        for where, node in self.nodes():
            if isinstance(node, ast.Call) and isinstance(node.func, ast.Attribute):
                self.assertIn(node.func.attr, METHODS | own, where)

    def test_the_top_of_a_file(self):
        for name, tree in self.trees():
            for node in tree.body[1:]:
                self.assertIsInstance(node, (ast.ImportFrom, ast.FunctionDef, ast.ClassDef, ast.Assign), name)
                if isinstance(node, ast.Assign):
                    for part in ast.walk(node.value):
                        self.assertNotIsInstance(part, (ast.Call, ast.BinOp, ast.Set, ast.ListComp), name)
            self.assertIsNotNone(ast.get_docstring(tree), name)


if __name__ == "__main__":
    unittest.main()
