"""The form of the package: where the interface is defined, how its arguments are called, and the sizes of the code."""

import ast
import pathlib
import unittest

FOLDER = pathlib.Path(__file__).resolve().parent.parent / "bundlekinds"

# For each file that has landed: its functions with the names of their arguments.
FUNCTIONS = {
    "naming.py": {"valid_name": ["text"]},
    "bundles.py": {
        "goods_of": ["names"],
        "all_bundles": ["goods"],
        "is_bundle": ["goods", "value"],
        "union": ["one", "other"],
        "common": ["one", "other"],
        "rest": ["one", "other"],
        "splits": ["bundle"],
        "bundle_text": ["bundle"],
        "read_bundle": ["text"],
    },
}
LIBRARY = ("collections", "heapq", "itertools", "math", "__future__")


def trees():
    """Return the name and the syntax tree of each file of the package."""
    return [(path.name, ast.parse(path.read_text())) for path in sorted(FOLDER.glob("*.py"))]


class TheForm(unittest.TestCase):
    def test_the_functions_of_the_interface_are_defined_in_their_files(self):
        found = dict(trees())
        for name, functions in FUNCTIONS.items():
            defined = {item.name: [arg.arg for arg in item.args.args] for item in found[name].body
                       if isinstance(item, ast.FunctionDef)}
            for function, arguments in functions.items():
                with self.subTest(file=name, function=function):
                    self.assertEqual(defined.get(function), arguments)

    def test_the_folder_holds_only_python_files(self):
        names = [path.name for path in FOLDER.iterdir() if path.name != "__pycache__"]
        self.assertIn("__init__.py", names)
        self.assertEqual([name for name in names if not name.endswith(".py")], [])

    def test_the_characters_and_the_lengths_of_lines_and_files(self):
        for path in FOLDER.glob("*.py"):
            text = path.read_bytes().decode("ascii")
            lines = text.split("\n")
            with self.subTest(file=path.name):
                self.assertEqual([sign for sign in text if not (" " <= sign <= "~" or sign == "\n")], [])
                self.assertLessEqual(len(lines), 399)
                self.assertLessEqual(max(len(line) for line in lines), 120)

    def test_the_lengths_of_functions(self):
        for name, tree in trees():
            for item in ast.walk(tree):
                if isinstance(item, ast.FunctionDef):
                    with self.subTest(file=name, function=item.name):
                        self.assertLessEqual(item.end_lineno - item.lineno + 1, 40)

    def test_the_imports(self):
        for name, tree in trees():
            for item in ast.walk(tree):
                self.assertNotIsInstance(item, ast.Import)
                if isinstance(item, ast.ImportFrom):
                    with self.subTest(file=name, module=item.module):
                        self.assertEqual(item.level, 0)
                        self.assertTrue(item.module.startswith("bundlekinds.") or item.module in LIBRARY)


if __name__ == "__main__":
    unittest.main()
