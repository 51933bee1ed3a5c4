"""The examples of README.md tell what the program tells."""

import doctest
import os

README = os.path.join(os.path.dirname(os.path.dirname(os.path.abspath(__file__))), "README.md")


def load_tests(loader, tests, pattern):
    tests.addTests(doctest.DocFileSuite(README, module_relative=False))
    return tests
