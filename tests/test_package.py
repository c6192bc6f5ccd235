"""Point 1, as far as the files of the package show it: no clock, no random numbers, no files.

The package may import only from itself and from the few modules that the rules of its language name,
none of which has a clock, random numbers or access to files.
"""

import ast
import doctest
import pathlib
import unittest

PACKAGE = pathlib.Path(__file__).resolve().parent.parent / "anytune"
ALLOWED = {"__future__", "collections", "heapq", "itertools", "math"}
BARRED = {"open", "input", "print", "eval", "exec", "compile", "__import__", "globals", "vars", "float", "hash", "id"}

OF_TWO = ["__or__", "__and__", "__sub__", "__xor__", "__add__", "__radd__"]
LEADS = ["__lshift__", "__rshift__", "__mul__", "__rmul__", "__floordiv__", "__neg__"]
INTERFACE = {
    "moments": {"Moment": ["over", "read"]},
    "marks": {"Mark": ["__eq__"]},
    "tunes": {"Tune": ["empty", "__call__", "__eq__", "__len__", "__contains__", *OF_TWO, *LEADS]},
    "pieces": {
        "Piece": ["named", "silence", "holes", "only", "every", "nth", "filled", "over", *OF_TWO, *LEADS],
        "turns": [],
    },
    "charts": {"Route": [], "Cell": [], "Chart": ["__eq__", "__str__", "piece", "read"], "chart": []},
    "comparing": {"Parting": [], **{name: [] for name in ("alike", "within", "apart", "silent", "parting")}},
    "pace": {"Surprise": [], **{name: [] for name in ("ahead", "lead", "heard", "needed", "surprise")}},
    "live": {"Live": ["__init__", "hear", "kept"]},
    "moves": {"undo": []},
    "deck": {
        "Deck": [
            *["__setitem__", "__getitem__", "__contains__", "__len__", "__iadd__"],
            *["names", "played", "change"],
        ]
    },
}


def trees():
    return [(path.name, ast.parse(path.read_text())) for path in sorted(PACKAGE.rglob("*.py"))]


class Package(unittest.TestCase):
    def test_package_is_found(self):
        names = [name for name, _ in trees()]
        for name in ("__init__.py", "errors.py", *[f"{module}.py" for module in INTERFACE]):
            self.assertIn(name, names)

    def test_the_interface_stands_where_the_document_lists_it(self):
        for module, names in INTERFACE.items():
            tree = ast.parse((PACKAGE / f"{module}.py").read_text())
            defined = {}
            for node in tree.body:
                if isinstance(node, (ast.FunctionDef, ast.ClassDef)):
                    defined[node.name] = [part.name for part in node.body if isinstance(part, ast.FunctionDef)]
            for name, methods in names.items():
                self.assertIn(name, defined, module)
                for method in methods:
                    self.assertIn(method, defined[name], name)

    def test_the_examples_of_the_readme(self):
        text = (PACKAGE.parent / "README.md").read_text().replace("```\n", "\n")
        test = doctest.DocTestParser().get_doctest(text, {}, "README.md", "README.md", 0)
        self.assertGreater(len(test.examples), 20)
        self.assertEqual(doctest.DocTestRunner().run(test).failed, 0)

    def test_imports(self):
        for name, tree in trees():
            for node in ast.walk(tree):
                self.assertNotIsInstance(node, ast.Import, name)
                if isinstance(node, ast.ImportFrom):
                    self.assertEqual(node.level, 0, name)
                    self.assertIn(node.module.split(".")[0], ALLOWED | {"anytune"}, name)

    def test_no_way_to_files_and_no_inexact_numbers(self):
        for name, tree in trees():
            for node in ast.walk(tree):
                if isinstance(node, ast.Name):
                    self.assertNotIn(node.id, BARRED, name)
                if isinstance(node, ast.Constant):
                    self.assertNotIsInstance(node.value, (float, complex), name)
                self.assertNotIsInstance(node, ast.Div, name)


if __name__ == "__main__":
    unittest.main()
