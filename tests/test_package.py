"""The interface, and point 1: no clock, no chance and no files, so far as the package's lines show."""

import ast
import os
import unittest

PACKAGE = os.path.join(os.path.dirname(os.path.dirname(os.path.abspath(__file__))), "newfaces")

# The functions of the interface, by their files, with their arguments.
INTERFACE = {
    "rounds.py": {"fault": ["party", "plan"]},
    "meetings.py": {"met": ["party", "plan"], "unmet": ["party", "plan"]},
    "nexts.py": {"next_rounds": ["party", "plan"]},
    "longest.py": {"bound": ["party", "plan"], "longest": ["party", "plan"]},
    "turnings.py": {"turned": ["party", "tables", "turning"], "turns": ["party", "tables", "turning"],
                    "made": ["party"], "rounds_made": ["party"]},
    "hosts.py": {"hosts": ["party", "plan"], "with_hosts": ["tables", "size"]},
    "comers.py": {"comes": ["party", "plan", "first"], "leaves": ["party", "plan", "guest", "last"]},
    "alike.py": {"alike": ["party", "one", "other"]},
    "notes.py": {"written": ["party", "plan", "names"], "read": ["party", "text", "names"]},
}


def trees():
    for name in sorted(os.listdir(PACKAGE)):
        if name.endswith(".py"):
            with open(os.path.join(PACKAGE, name), encoding="ascii") as file:
                yield name, ast.parse(file.read())


class PackageTest(unittest.TestCase):

    def test_files_of_the_interface(self):
        names = [name for name, tree in trees()]
        for name in ["__init__.py", "errors.py", "parties.py"] + list(INTERFACE):
            self.assertIn(name, names)

    def test_functions_of_the_interface_are_defined_in_their_files(self):
        for name, tree in trees():
            defined = {node.name: node for node in tree.body if isinstance(node, ast.FunctionDef)}
            for function, wanted in INTERFACE.get(name, {}).items():
                given = defined[function].args
                self.assertEqual([argument.arg for argument in given.args], wanted, function)
                self.assertEqual((given.vararg, given.kwonlyargs, given.kwarg, given.defaults), (None, [], None, []))

    def test_imports_are_from_the_package_alone(self):
        for name, tree in trees():
            for node in ast.walk(tree):
                self.assertNotIsInstance(node, ast.Import, name)
                if isinstance(node, ast.ImportFrom):
                    self.assertEqual((node.level, node.module.split(".")[0]), (0, "newfaces"), name)

    def test_no_builtin_that_reaches_outside(self):
        barred = {"open", "input", "print", "exec", "eval", "compile", "hash", "id", "globals", "__import__"}
        for name, tree in trees():
            used = {node.id for node in ast.walk(tree) if isinstance(node, ast.Name)}
            self.assertEqual(used & barred, set(), name)

    def test_all_numbers_are_whole(self):
        for name, tree in trees():
            for node in ast.walk(tree):
                self.assertNotIsInstance(node, ast.Div, name)
                if isinstance(node, ast.Constant):
                    self.assertNotIsInstance(node.value, (float, complex), name)
