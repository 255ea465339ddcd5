"""The form of the package's files: sizes, signs, imports and builtins that the language allows."""

import ast
import builtins
import pathlib
import unittest

FOLDER = pathlib.Path(__file__).resolve().parent.parent / "lotgivers"
BUILTINS = set(
    "len range enumerate zip min max sum abs sorted reversed int str bool bytes list tuple dict set frozenset"
    " isinstance ord repr any all divmod pow getattr hasattr setattr map iter next super property staticmethod"
    " classmethod NotImplemented Exception ValueError TypeError KeyError IndexError LookupError ZeroDivisionError"
    " ArithmeticError OverflowError RuntimeError NotImplementedError AttributeError StopIteration".split()
)
LIBRARY = {"heapq", "math", "itertools", "collections", "__future__"}
NOT_ALLOWED = (
    ast.Global, ast.AsyncFunctionDef, ast.AsyncFor, ast.AsyncWith, ast.Await, ast.Import, ast.Div, ast.MatMult,
)


def files():
    """Each file of the package with its text."""
    return [(path, path.read_text("utf-8")) for path in sorted(FOLDER.glob("*.py"))]


class TestForm(unittest.TestCase):
    def test_the_folder_holds_nothing_else(self):
        for path in FOLDER.iterdir():
            if path.name != "__pycache__":
                self.assertEqual((path.suffix, path.is_file()), (".py", True), path)
        self.assertTrue((FOLDER / "__init__.py").exists())

    def test_sizes_and_signs(self):
        for path, text in files():
            rows = text.split("\n")
            self.assertLessEqual(len(rows), 399, path)
            for row in rows:
                self.assertLessEqual(len(row), 120, (path, row))
                self.assertTrue(all(" " <= sign <= "~" for sign in row), (path, row))
            for node in ast.walk(ast.parse(text)):
                if isinstance(node, ast.FunctionDef):
                    self.assertLessEqual(node.end_lineno - node.lineno + 1, 40, (path, node.name))

    def test_statements_and_literals(self):
        for path, text in files():
            for node in ast.walk(ast.parse(text)):
                self.assertNotIsInstance(node, NOT_ALLOWED, path)
                if isinstance(node, ast.Constant):
                    self.assertNotIsInstance(node.value, (float, complex), path)
                    self.assertFalse(isinstance(node.value, str) and "%" in node.value, path)
                if isinstance(node, ast.ImportFrom):
                    self.assertEqual(node.level, 0)
                    self.assertIn(node.module.split(".")[0], LIBRARY | {"lotgivers"}, path)

    def test_builtins(self):
        for path, text in files():
            for node in ast.walk(ast.parse(text)):
                if isinstance(node, ast.Name) and node.id in vars(builtins):
                    self.assertIn(node.id, BUILTINS, path)
                    self.assertIsInstance(node.ctx, ast.Load, (path, node.id))
                if isinstance(node, (ast.FunctionDef, ast.ClassDef)):
                    self.assertNotIn(node.name, vars(builtins), path)
                if isinstance(node, ast.arg):
                    self.assertNotIn(node.arg, vars(builtins), path)


if __name__ == "__main__":
    unittest.main()
