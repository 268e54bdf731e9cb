"""The package as a whole: the interface's names, and the rules of form that can be read off the files."""

import ast
import inspect
import pathlib
import unittest

from skyprices import days
from tests.samples import places_in, running_day

PACKAGE = pathlib.Path(days.__file__).parent
LIBRARY = {"heapq", "math", "itertools", "collections"}


def files():
    return sorted(PACKAGE.glob("**/*.py"))


class InterfaceTest(unittest.TestCase):
    def test_functions_of_days(self):
        wanted = {"is_day": ["thing"], "is_plan": ["day", "thing"], "gain_of": ["day", "plan"]}
        for name, parameters in wanted.items():
            function = getattr(days, name)
            self.assertEqual(function.__module__, "skyprices.days")
            self.assertEqual(list(inspect.signature(function).parameters), parameters)


class CopyTest(unittest.TestCase):
    def test_a_copied_day_shares_no_list(self):
        day = running_day()
        copied = days.copy_of_day(day)
        self.assertEqual(copied, day)
        lists = [part for thing in (day, copied) for _, part in places_in(thing) if isinstance(part, list)]
        self.assertEqual(len({id(part) for part in lists}), len(lists))


class FormTest(unittest.TestCase):
    def test_only_plain_files(self):
        for path in PACKAGE.glob("**/*"):
            if path.is_file() and "__pycache__" not in path.parts:
                self.assertEqual(path.suffix, ".py")
                self.assertTrue(path.stem.isidentifier() and path.stem == path.stem.lower(), path)

    def test_characters_and_sizes(self):
        for path in files():
            rows = path.read_text(encoding="utf-8").split("\n")
            self.assertLessEqual(len(rows), 399, path)
            for row in rows:
                self.assertLessEqual(len(row), 120, path)
                self.assertTrue(all(" " <= sign <= "~" for sign in row), (path, row))

    def test_functions_are_short(self):
        for path in files():
            for node in ast.walk(ast.parse(path.read_text(encoding="utf-8"))):
                if isinstance(node, ast.FunctionDef):
                    self.assertLessEqual(node.end_lineno - node.lineno + 1, 40, (path, node.name))

    def test_imports(self):
        for path in files():
            for node in ast.walk(ast.parse(path.read_text(encoding="utf-8"))):
                self.assertNotIsInstance(node, ast.Import, path)
                if isinstance(node, ast.ImportFrom):
                    self.assertEqual(node.level, 0, path)
                    self.assertIn(node.module.split(".")[0], LIBRARY | {"skyprices"}, path)

    def test_no_numbers_with_a_point_and_no_per_cent_in_strings(self):
        for path in files():
            for node in ast.walk(ast.parse(path.read_text(encoding="utf-8"))):
                self.assertNotIsInstance(node, ast.Div, path)
                if isinstance(node, ast.Constant):
                    self.assertNotIsInstance(node.value, (float, complex), path)
                    self.assertNotIn("\N{PERCENT SIGN}", str(node.value), path)


if __name__ == "__main__":
    unittest.main()
