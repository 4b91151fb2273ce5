"""The rules of LANGUAGE.md that are easy to forget; the others are read for."""

import ast
import builtins
import pathlib
import re
import unittest

PACKAGE = pathlib.Path(__file__).resolve().parent.parent / "holeslides"
LIBRARY = {"math", "heapq", "itertools", "collections"}
BUILTINS = set(
    "len range enumerate zip map min max sum abs sorted reversed int str bool list tuple dict set isinstance ord repr"
    " any all divmod iter next type super Exception ValueError TypeError KeyError IndexError LookupError"
    " ZeroDivisionError ArithmeticError OverflowError RuntimeError NotImplementedError NotImplemented"
    " property staticmethod classmethod".split()
)


def texts():
    return {path: path.read_text("utf-8") for path in sorted(PACKAGE.rglob("*.py"))}


def nodes():
    for path, text in texts().items():
        for node in ast.walk(ast.parse(text)):
            yield path, node


class TestLanguage(unittest.TestCase):

    def test_the_folder_holds_python_files_only(self):
        self.assertTrue((PACKAGE / "__init__.py").is_file())
        for path in PACKAGE.rglob("*"):
            if "__pycache__" not in path.parts:
                self.assertRegex(path.name, r"\A[a-z_0-9]+\.py\Z")

    def test_files_and_lines_are_short_and_plain(self):
        for path, text in texts().items():
            lines = text.split("\n")
            self.assertLess(len(lines), 400, path)
            for line in lines:
                self.assertLessEqual(len(line), 120, (path, line))
            self.assertIsNone(re.search("[^ -~\n]", text), path)

    def test_functions_are_short(self):
        for path, node in nodes():
            if isinstance(node, ast.FunctionDef):
                self.assertLessEqual(node.end_lineno - node.lineno + 1, 40, (path, node.name))

    def test_imports_are_from_the_package_or_the_few_modules_allowed(self):
        for path, node in nodes():
            self.assertNotIsInstance(node, ast.Import, path)
            if isinstance(node, ast.ImportFrom):
                self.assertEqual(node.level, 0)
                self.assertTrue(node.module in LIBRARY or node.module.startswith("holeslides."), node.module)
                self.assertNotIn("*", [alias.name for alias in node.names])

    def test_builtins_are_those_allowed(self):
        for path, node in nodes():
            if isinstance(node, ast.Name) and hasattr(builtins, node.id):
                self.assertIn(node.id, BUILTINS, path)

    def test_there_are_no_floats_and_no_division_by_them(self):
        for path, node in nodes():
            self.assertNotIsInstance(node, ast.Div, path)
            if isinstance(node, ast.Constant):
                self.assertNotIsInstance(node.value, (float, complex), path)

    def test_errors_are_raised_by_the_name_of_their_class(self):
        for path, node in nodes():
            if isinstance(node, ast.Raise) and node.exc is not None:
                self.assertIsInstance(node.exc, ast.Call, path)
                self.assertIsInstance(node.exc.func, ast.Name, path)


if __name__ == "__main__":
    unittest.main()
