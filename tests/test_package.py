"""Point 1: no clock, no chance, no files. The package draws on nothing but itself."""

import ast
import pathlib
import unittest

PACKAGE = pathlib.Path(__file__).resolve().parent.parent / "ferrynight"
WAYS_OUT = ("open", "input", "eval", "exec", "compile", "__import__", "__builtins__", "globals", "breakpoint")


def nodes_of_package():
    for path in sorted(PACKAGE.rglob("*.py")):
        for node in ast.walk(ast.parse(path.read_text(encoding="ascii"))):
            yield path.name, node


class PackageTest(unittest.TestCase):
    def test_files_are_there(self):
        names = {path.name for path in PACKAGE.glob("*.py")}
        self.assertLessEqual({"__init__.py", "errors.py", "night.py"}, names)

    def test_imports_are_the_packages_own(self):
        for name, node in nodes_of_package():
            self.assertNotIsInstance(node, ast.Import, name)
            if isinstance(node, ast.ImportFrom):
                self.assertEqual(node.level, 0, name)
                self.assertTrue(node.module.startswith("ferrynight."), f"{name}: {node.module}")

    def test_no_name_leads_outside(self):
        for name, node in nodes_of_package():
            if isinstance(node, ast.Name):
                self.assertNotIn(node.id, WAYS_OUT, name)


if __name__ == "__main__":
    unittest.main()
