"""The plain rules of ../shared/LANGUAGE.md that can be read off the files of the package."""

import ast
import builtins
import re
import unittest
from pathlib import Path

PACKAGE = Path(__file__).resolve().parent.parent / "liftedties"
FILES = sorted(PACKAGE.rglob("*.py"))
LIBRARY = {
    "heapq": ("heappush", "heappop", "heapify", "heapreplace", "heappushpop"),
    "math": ("gcd", "lcm", "isqrt", "comb", "perm", "factorial"),
    "itertools": ("product", "combinations", "permutations", "chain", "accumulate", "pairwise", "islice", "zip_longest"),
    "collections": ("defaultdict", "deque"),
    "__future__": ("annotations",),
}
BUILTINS = (
    "len range enumerate zip min max sum abs sorted reversed int str bool bytes list tuple dict set isinstance ord repr "
    "any all divmod pow getattr hasattr setattr iter next type map super property staticmethod classmethod object float "
    "Exception ValueError TypeError KeyError IndexError LookupError ZeroDivisionError ArithmeticError OverflowError "
    "RuntimeError NotImplementedError AttributeError StopIteration NotImplemented"
).split()
AT_MODULE_LEVEL = (ast.ImportFrom, ast.FunctionDef, ast.ClassDef, ast.Assign, ast.AnnAssign, ast.Expr)


def trees():
    return [(path, ast.parse(path.read_text(encoding="utf-8"))) for path in FILES]


class Language(unittest.TestCase):

    def test_the_folder_holds_nothing_else(self):
        self.assertIn(PACKAGE / "__init__.py", FILES)
        for path in PACKAGE.rglob("*"):
            if "__pycache__" in path.parts or path.is_dir():
                continue
            self.assertRegex(path.name, r"^(__init__|[a-z][a-z0-9_]*)\.py$")

    def test_sizes_and_signs(self):
        for path in FILES:
            text = path.read_text(encoding="utf-8")
            self.assertLessEqual(len(text.splitlines()), 399, path)
            self.assertLessEqual(max(map(len, text.splitlines()), default=0), 120, path)
            self.assertIsNone(re.search("[^ -~\n]", text), path)

    def test_functions_have_at_most_forty_lines(self):
        for path, tree in trees():
            for node in ast.walk(tree):
                if isinstance(node, ast.FunctionDef):
                    self.assertLessEqual(node.end_lineno - node.lineno + 1, 40, (path, node.name))

    def test_imports(self):
        for path, tree in trees():
            for node in ast.walk(tree):
                self.assertNotIsInstance(node, ast.Import, path)
                if isinstance(node, ast.ImportFrom):
                    self.assertIn(node, tree.body, path)
                    self.check_import(path, node)

    def check_import(self, path, node):
        self.assertEqual(node.level, 0, path)
        names = [alias.name for alias in node.names]
        if node.module in LIBRARY:
            self.assertEqual([name for name in names if name not in LIBRARY[node.module]], [], path)
        else:
            self.assertTrue(node.module.startswith("liftedties."), path)
            source = PACKAGE.joinpath(*node.module.split(".")[1:]).with_suffix(".py")
            self.assertEqual([name for name in names if name not in bound_in(source)], [], path)

    def test_module_level(self):
        for path, tree in trees():
            for node in tree.body:
                self.assertIsInstance(node, AT_MODULE_LEVEL, path)
                if isinstance(node, ast.Expr):
                    self.assertIs(node, tree.body[0], path)
                    self.assertIsInstance(node.value, ast.Constant, path)

    def test_builtins(self):
        for path, tree in trees():
            for node in ast.walk(tree):
                if isinstance(node, ast.Name) and hasattr(builtins, node.id):
                    self.assertIn(node.id, BUILTINS, path)

    def test_what_does_not_stand_anywhere(self):
        # A generator expression is let in few places beside a class with __eq__; a list will do in each of them.
        barred = (ast.AsyncFunctionDef, ast.AsyncFor, ast.AsyncWith, ast.Await, ast.Div, ast.GeneratorExp)
        for path, tree in trees():
            for node in ast.walk(tree):
                self.assertNotIsInstance(node, barred, path)
                if isinstance(node, ast.Constant):
                    self.assertNotIsInstance(node.value, (float, complex), path)
                if isinstance(node, ast.Raise):
                    self.assertIsInstance(node.exc, (ast.Call, type(None)), path)
                if isinstance(node, ast.ExceptHandler):
                    self.assertIsNotNone(node.type, path)


    def test_words_that_do_not_stand_beside_an_index_of_a_class(self):
        for path in FILES:
            text = path.read_text(encoding="utf-8")
            for word in ("(" + "type)", "Meta", "metaclass="):
                self.assertNotIn(word, text, path)

    def test_double_underscore_methods(self):
        let = ("__init__", "__eq__", "__getitem__", "__iter__")
        for path, tree in trees():
            for node in ast.walk(tree):
                if isinstance(node, ast.FunctionDef) and node.name.startswith("__"):
                    self.assertIn(node.name, let, path)


def bound_in(path):
    """The names that a file defines itself."""
    told = []
    for node in ast.parse(path.read_text(encoding="utf-8")).body:
        if isinstance(node, (ast.FunctionDef, ast.ClassDef)):
            told.append(node.name)
        elif isinstance(node, ast.Assign):
            told.extend(target.id for target in node.targets)
    return told


if __name__ == "__main__":
    unittest.main()
