"""The form of the package: where the interface is defined, how its arguments are called, and the sizes of the code."""

import ast
import pathlib
import unittest

FOLDER = pathlib.Path(__file__).resolve().parent.parent / "bundlekinds"

# For each file that has landed: its functions with the names of their arguments.
FUNCTIONS = {
    "naming.py": {"valid_name": ["text"]},
    "bundles.py": {
        "goods_of": ["names"],
        "all_bundles": ["goods"],
        "is_bundle": ["goods", "value"],
        "union": ["one", "other"],
        "common": ["one", "other"],
        "rest": ["one", "other"],
        "splits": ["bundle"],
        "bundle_text": ["bundle"],
        "read_bundle": ["text"],
    },
    "prices.py": {
        "gain": ["table", "prices", "bundle"],
        "best_gain": ["table", "prices"],
        "wanted": ["table", "prices"],
        "is_wanted": ["table", "prices", "bundle"],
    },
    "kinds.py": {
        "failures": ["table"],
        "first_failure": ["table"],
        "is_substitutes": ["table"],
        "check_failure": ["table", "failure"],
    },
    "walks.py": {
        "steps": ["table", "prices", "bundle"],
        "walk": ["table", "prices", "bundle"],
        "is_stuck": ["table", "prices", "bundle"],
        "check_stuck": ["table", "stuck"],
        "stuck_case": ["table"],
    },
    "rises.py": {
        "kept": ["table", "before", "after", "bundle"],
        "check_rise": ["table", "rise"],
        "rise_case": ["table"],
    },
    "programs.py": {"best_mix": ["rows", "bounds", "worths"]},
    "clearing.py": {
        "check_clearing": ["market", "prices", "sharing"],
        "check_mixture": ["market", "mixture"],
        "check_paper": ["market", "paper"],
        "marginal_prices": ["market"],
        "higher": ["one", "other"],
        "lower": ["one", "other"],
        "decide": ["market"],
    },
    "breakers.py": {
        "wants_one": ["table"],
        "check_break": ["table", "told"],
        "broken_market": ["table", "told"],
        "breakers": ["table"],
    },
    "exchanges.py": {
        "exchange": ["table", "one", "other", "good"],
        "exchange_case": ["table"],
        "check_exchange": ["table", "case"],
        "linked": ["table", "prices", "one", "other"],
    },
    "levels.py": {
        "level": ["market", "prices"],
        "climb": ["market"],
        "least_prices": ["market"],
        "cost_range": ["market", "good"],
        "prices_with": ["market", "good", "amount", "unit"],
    },
}
# For each file that has landed: its classes with their methods, and the names of the arguments behind the first one.
CLASSES = {
    "tables.py": {
        "Table": {
            "__init__": ["goods", "numbers"],
            "goods": [],
            "numbers": [],
            "__call__": ["bundle"],
            "plain": ["amounts"],
            "one_of": ["amounts"],
            "some_of": ["amounts", "most"],
            "nested": ["goods", "rows"],
            "read": ["text"],
            "restricted": ["goods"],
            "ahead": ["bundle"],
            "plus": ["amounts"],
            "times": ["factor"],
            "__eq__": ["other"],
            "__str__": [],
        },
    },
    "prices.py": {
        "Prices": {
            "__init__": ["amounts", "*", "unit"],
            "goods": [],
            "unit": [],
            "__getitem__": ["good"],
            "amounts": [],
            "total": ["bundle"],
            "raised": ["good", "by"],
            "in_unit": ["unit"],
            "covers": ["other"],
            "__eq__": ["other"],
        },
    },
    "walks.py": {
        "Stuck": {"__init__": ["prices", "bundle"], "prices": [], "bundle": []},
    },
    "rises.py": {
        "Rise": {
            "__init__": ["before", "after", "bundle", "good"],
            "before": [],
            "after": [],
            "bundle": [],
            "good": [],
        },
    },
    "markets.py": {
        "Market": {
            "__init__": ["tables"],
            "buyers": [],
            "goods": [],
            "__getitem__": ["buyer"],
            "is_sharing": ["value"],
            "worth_of": ["sharing"],
            "best": ["bundle"],
            "joint": [],
            "restricted": ["goods"],
            "with_buyer": ["name", "table"],
            "__contains__": ["buyer"],
            "__len__": [],
            "__eq__": ["other"],
        },
    },
    "clearing.py": {
        "Mixture": {"__init__": ["unit", "weights"], "unit": [], "weights": []},
        "Verdict": {"__init__": ["paper"], "kind": [], "paper": []},
    },
    "breakers.py": {
        "Break": {"__init__": ["factor", "others", "mixture"], "factor": [], "others": [], "mixture": []},
    },
    "books.py": {
        "Book": {
            "__init__": ["goods"],
            "goods": [],
            "order": [],
            "drop": ["name"],
            "market": [],
            "verdict": [],
            "tried": ["changes"],
            "undo": [],
            "__getitem__": ["name"],
            "__setitem__": ["name", "table"],
            "__contains__": ["name"],
            "__len__": [],
        },
    },
}
# The methods that are no plain ones.
DECORATORS = {
    "property": ["goods", "numbers", "unit", "prices", "bundle", "before", "after", "good", "buyers", "weights", "kind",
                 "paper", "factor", "others", "mixture", "order"],
    "classmethod": ["plain", "one_of", "some_of", "nested", "read"],
}
LIBRARY = ("collections", "heapq", "itertools", "math", "__future__")


def trees():
    """Return the name and the syntax tree of each file of the package."""
    return [(path.name, ast.parse(path.read_text())) for path in sorted(FOLDER.glob("*.py"))]


def arguments_of(function):
    """Return the names of the arguments of a function; those after a star are passed by name only."""
    names = [arg.arg for arg in function.args.args]
    if function.args.kwonlyargs:
        names += ["*"] + [arg.arg for arg in function.args.kwonlyargs]
    return names


def decorators_of(function):
    """Return the names of the decorators of a function."""
    return [ast.unparse(item) for item in function.decorator_list]


class TheForm(unittest.TestCase):
    def test_the_functions_of_the_interface_are_defined_in_their_files(self):
        found = dict(trees())
        for name, functions in FUNCTIONS.items():
            defined = {item.name: arguments_of(item) for item in found[name].body if isinstance(item, ast.FunctionDef)}
            for function, arguments in functions.items():
                with self.subTest(file=name, function=function):
                    self.assertEqual(defined.get(function), arguments)

    def test_the_classes_of_the_interface_define_their_methods_in_their_files(self):
        found = dict(trees())
        for name, classes in CLASSES.items():
            bodies = {item.name: item.body for item in found[name].body if isinstance(item, ast.ClassDef)}
            for title, methods in classes.items():
                defined = {item.name: item for item in bodies[title] if isinstance(item, ast.FunctionDef)}
                for method, arguments in methods.items():
                    with self.subTest(file=name, title=title, method=method):
                        self.assertEqual(arguments_of(defined[method])[1:], arguments)
                        expected = [word for word, those in DECORATORS.items() if method in those]
                        self.assertEqual(decorators_of(defined[method]), expected)

    def test_the_folder_holds_only_python_files(self):
        names = [path.name for path in FOLDER.iterdir() if path.name != "__pycache__"]
        self.assertIn("__init__.py", names)
        self.assertEqual([name for name in names if not name.endswith(".py")], [])

    def test_the_characters_and_the_lengths_of_lines_and_files(self):
        for path in FOLDER.glob("*.py"):
            text = path.read_bytes().decode("ascii")
            lines = text.split("\n")
            with self.subTest(file=path.name):
                self.assertEqual([sign for sign in text if not (" " <= sign <= "~" or sign == "\n")], [])
                self.assertLessEqual(len(lines), 399)
                self.assertLessEqual(max(len(line) for line in lines), 120)

    def test_the_lengths_of_functions(self):
        for name, tree in trees():
            for item in ast.walk(tree):
                if isinstance(item, ast.FunctionDef):
                    with self.subTest(file=name, function=item.name):
                        self.assertLessEqual(item.end_lineno - item.lineno + 1, 40)

    def test_the_imports(self):
        for name, tree in trees():
            for item in ast.walk(tree):
                self.assertNotIsInstance(item, ast.Import)
                if isinstance(item, ast.ImportFrom):
                    with self.subTest(file=name, module=item.module):
                        self.assertEqual(item.level, 0)
                        self.assertTrue(item.module.startswith("bundlekinds.") or item.module in LIBRARY)


if __name__ == "__main__":
    unittest.main()
