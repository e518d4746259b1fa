"""Point 1: no clock, no chance, no files: the package draws on nothing but itself. And its sizes."""

import ast
import pathlib
import unittest

PACKAGE = pathlib.Path(__file__).resolve().parent.parent / "ferrynight"
WAYS_OUT = ("open", "input", "eval", "exec", "compile", "__import__", "__builtins__", "globals", "breakpoint")


def nodes_of_package():
    for path in sorted(PACKAGE.rglob("*.py")):
        for node in ast.walk(ast.parse(path.read_text(encoding="ascii"))):
            yield path.name, node


class PackageTest(unittest.TestCase):
    def test_files_are_there(self):
        names = {path.name for path in PACKAGE.glob("*.py")}
        self.assertLessEqual({"__init__.py", "errors.py", "night.py", "crossing.py", "plans.py", "notes.py"}, names)

    def test_imports_are_the_packages_own(self):
        for name, node in nodes_of_package():
            self.assertNotIsInstance(node, ast.Import, name)
            if isinstance(node, ast.ImportFrom):
                self.assertEqual(node.level, 0, name)
                self.assertTrue(node.module.startswith("ferrynight."), f"{name}: {node.module}")

    def test_no_name_leads_outside(self):
        for name, node in nodes_of_package():
            if isinstance(node, ast.Name):
                self.assertNotIn(node.id, WAYS_OUT, name)

    def test_files_and_functions_stay_small(self):
        for path in PACKAGE.rglob("*.py"):
            lines = path.read_text(encoding="ascii").split("\n")
            self.assertLessEqual(len(lines), 400, path.name)
            self.assertLessEqual(max(len(line) for line in lines), 120, path.name)
            self.assertNotIn("\t", "".join(lines), path.name)
        for name, node in nodes_of_package():
            if isinstance(node, ast.FunctionDef):
                self.assertLessEqual(node.end_lineno - node.lineno + 1, 40, f"{name}: {node.name}")


if __name__ == "__main__":
    unittest.main()
