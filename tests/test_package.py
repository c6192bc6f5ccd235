"""Point 1, as far as the files of the package show it: no clock, no random numbers, no files.

The package may import only from itself and from the few modules that the rules of its language name,
none of which has a clock, random numbers or access to files.
"""

import ast
import pathlib
import unittest

PACKAGE = pathlib.Path(__file__).resolve().parent.parent / "anytune"
ALLOWED = {"__future__", "collections", "heapq", "itertools", "math"}
BARRED = {"open", "input", "print", "eval", "exec", "compile", "__import__", "globals", "vars", "float", "hash", "id"}


def trees():
    return [(path.name, ast.parse(path.read_text())) for path in sorted(PACKAGE.rglob("*.py"))]


class Package(unittest.TestCase):
    def test_package_is_found(self):
        names = [name for name, _ in trees()]
        for name in ("__init__.py", "errors.py", "moments.py", "marks.py"):
            self.assertIn(name, names)

    def test_imports(self):
        for name, tree in trees():
            for node in ast.walk(tree):
                self.assertNotIsInstance(node, ast.Import, name)
                if isinstance(node, ast.ImportFrom):
                    self.assertEqual(node.level, 0, name)
                    self.assertIn(node.module.split(".")[0], ALLOWED | {"anytune"}, name)

    def test_no_way_to_files_and_no_inexact_numbers(self):
        for name, tree in trees():
            for node in ast.walk(tree):
                if isinstance(node, ast.Name):
                    self.assertNotIn(node.id, BARRED, name)
                if isinstance(node, ast.Constant):
                    self.assertNotIsInstance(node.value, (float, complex), name)
                self.assertNotIsInstance(node, ast.Div, name)


if __name__ == "__main__":
    unittest.main()
