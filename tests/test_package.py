"""Point 1: no clock, no chance and no files, so far as the package's own lines show."""

import ast
import os
import unittest

PACKAGE = os.path.join(os.path.dirname(os.path.dirname(os.path.abspath(__file__))), "newfaces")


def trees():
    for name in sorted(os.listdir(PACKAGE)):
        if name.endswith(".py"):
            with open(os.path.join(PACKAGE, name), encoding="ascii") as file:
                yield name, ast.parse(file.read())


class PackageTest(unittest.TestCase):

    def test_files_of_the_interface(self):
        names = [name for name, tree in trees()]
        for name in ("__init__.py", "errors.py", "parties.py", "rounds.py"):
            self.assertIn(name, names)

    def test_imports_are_from_the_package_alone(self):
        for name, tree in trees():
            for node in ast.walk(tree):
                self.assertNotIsInstance(node, ast.Import, name)
                if isinstance(node, ast.ImportFrom):
                    self.assertEqual((node.level, node.module.split(".")[0]), (0, "newfaces"), name)

    def test_no_builtin_that_reaches_outside(self):
        barred = {"open", "input", "print", "exec", "eval", "compile", "hash", "id", "globals", "__import__"}
        for name, tree in trees():
            used = {node.id for node in ast.walk(tree) if isinstance(node, ast.Name)}
            self.assertEqual(used & barred, set(), name)

    def test_all_numbers_are_whole(self):
        for name, tree in trees():
            for node in ast.walk(tree):
                self.assertNotIsInstance(node, ast.Div, name)
                if isinstance(node, ast.Constant):
                    self.assertNotIsInstance(node.value, (float, complex), name)
