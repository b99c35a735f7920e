"""The rules of the language that can be counted: sizes, signs, and what may be imported."""

import ast
import os
import unittest

import faultsheaves

FOLDER = os.path.dirname(os.path.abspath(faultsheaves.__file__))
LIBRARY = ["heapq", "math", "itertools", "collections", "__future__"]


def files():
    """Each file of the package as (name, text)."""
    found = []
    for name in sorted(os.listdir(FOLDER)):
        if name != "__pycache__":
            with open(os.path.join(FOLDER, name), encoding="utf-8") as source:
                found.append((name, source.read()))
    return found


def nodes(text, *classes):
    """All nodes of these classes in a file."""
    return [node for node in ast.walk(ast.parse(text)) if isinstance(node, classes)]


class TestLanguage(unittest.TestCase):
    def test_files_are_python_and_small(self):
        for name, text in files():
            self.assertTrue(name.endswith(".py"), name)
            self.assertLessEqual(len(text.split("\n")), 399, name)
            for line in text.split("\n"):
                self.assertLessEqual(len(line), 120, name)

    def test_signs(self):
        for name, text in files():
            odd = [sign for sign in text if sign != "\n" and not " " <= sign <= "~"]
            self.assertEqual(odd, [], name)

    def test_functions_are_small(self):
        for name, text in files():
            for node in nodes(text, ast.FunctionDef):
                self.assertLessEqual(node.end_lineno - node.lineno + 1, 40, f"{name}: {node.name}")

    def test_imports(self):
        for name, text in files():
            self.assertEqual(nodes(text, ast.Import), [], name)
            for node in nodes(text, ast.ImportFrom):
                self.assertEqual(node.level, 0, name)
                self.assertIn(node.module.split(".")[0], ["faultsheaves"] + LIBRARY, name)
                self.assertNotIn("*", [alias.name for alias in node.names], name)

    def test_strings(self):
        for name, text in files():
            for node in nodes(text, ast.Constant):
                if isinstance(node.value, str):
                    self.assertNotIn("%", node.value, name)


if __name__ == "__main__":
    unittest.main()
