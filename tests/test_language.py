"""The interface as it is listed, and what LANGUAGE.md says of sizes, signs and imports."""

import ast
import pathlib
import unittest

PACKAGE = pathlib.Path(__file__).resolve().parent.parent / "owedonce"

INTERFACE = {
    "terms": {"is_name": ["thing"], "is_term": ["thing"], "is_program": ["thing"], "free_names": ["term"]},
    "plainly": {"plain": ["program", "look", "*", "limit"]},
    "late": {"late": ["program", "look", "*", "limit"], "rows": ["program", "look", "*", "limit"]},
    "seers": {"seer": ["program", "numbers", "look", "*", "limit"],
              "seer_rows": ["program", "numbers", "look", "*", "limit"],
              "least": ["program", "look", "*", "limit"], "all_seers": ["program", "look", "*", "most", "limit"]},
    "inputs": {"on": ["function", "given", "look", "*", "limit"],
               "parts_asked": ["function", "given", "look", "*", "limit"]},
    "surely": {"surely": ["term"], "moved": ["term"]},
    "shops": {"run": ["shop", "history", "*", "order", "limit"], "ledger": ["shop", "history", "*", "limit"]},
    "plans": {"past": ["ledger", "k"], "asks": ["ledger", "k"], "spent": ["ledger", "order"],
              "lacking": ["ledger", "plan"], "is_let_by": ["ledger", "thing"], "prices": ["ledger", "plan"],
              "late_plan": ["ledger"]},
    "twoshops": {"shop": ["name"], "rule": ["name", "history"]},
    "texts": {"written": ["thing"], "read": ["text"], "seen_text": ["seen"]},
    "desk": {},
}


def files():
    return sorted(PACKAGE.iterdir())


def tree_of(path):
    return ast.parse(path.read_text())


def arguments(function):
    given = [one.arg for one in function.args.args]
    alone = [one.arg for one in function.args.kwonlyargs]
    return given + ["*"] + alone if alone else given


class LanguageTest(unittest.TestCase):

    def test_each_function_stands_in_its_file_with_its_arguments(self):
        for name, functions in INTERFACE.items():
            body = tree_of(PACKAGE / (name + ".py")).body
            found = {one.name: arguments(one) for one in body if isinstance(one, ast.FunctionDef)}
            for function, given in functions.items():
                self.assertEqual(found[function], given)

    def test_a_desk_says_by_a_method_of_its_own(self):
        desks = [one for one in tree_of(PACKAGE / "desk.py").body if isinstance(one, ast.ClassDef) and one.name == "Desk"]
        found = {one.name: arguments(one) for one in desks[0].body if isinstance(one, ast.FunctionDef)}
        self.assertEqual(found["say"], ["self", "row"])
        self.assertEqual(found["__init__"], ["self"])

    def test_the_folder_holds_files_of_python_alone(self):
        names = [path.name for path in files() if path.name != "__pycache__"]
        self.assertIn("__init__.py", names)
        for name in names:
            self.assertRegex(name, r"^(__init__|__main__|[a-z]+)\.py$")

    def test_sizes_and_signs(self):
        for path in PACKAGE.glob("*.py"):
            text = path.read_text()
            rows = text.split("\n")
            self.assertLessEqual(len(rows), 399, path)
            self.assertRegex(text, r"^[\n -~]*$", path)
            self.assertLessEqual(max(len(row) for row in rows), 120, path)
            for node in ast.walk(tree_of(path)):
                if isinstance(node, ast.FunctionDef):
                    self.assertLessEqual(node.end_lineno - node.lineno + 1, 40, (path, node.name))

    def test_imports_are_of_the_package_by_full_names(self):
        for path in PACKAGE.glob("*.py"):
            for node in ast.walk(tree_of(path)):
                self.assertNotIsInstance(node, ast.Import, path)
                if isinstance(node, ast.ImportFrom):
                    self.assertEqual((node.module.split(".")[0], node.level), ("owedonce", 0), path)
