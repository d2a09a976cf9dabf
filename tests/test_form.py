"""The form of the package's files, as far as it is easily asked: sizes, signs, imports and names."""

import ast
import os
import unittest

PACKAGE = os.path.join(os.path.dirname(os.path.dirname(os.path.abspath(__file__))), "bentthrough")
LIBRARY = ("heapq", "math", "itertools", "collections", "__future__")
BUILTINS = (
    "len", "range", "enumerate", "zip", "min", "max", "sum", "abs", "sorted", "reversed", "int", "str", "bool", "list",
    "tuple", "dict", "set", "isinstance", "ord", "repr", "any", "all", "divmod", "pow", "map", "iter", "next", "super",
    "property", "classmethod", "staticmethod", "Exception", "ValueError", "TypeError", "KeyError", "IndexError",
    "LookupError", "ZeroDivisionError", "ArithmeticError", "NotImplemented",
)


def files():
    """The pairs (name, text) of the package's files."""
    pairs = []
    for name in sorted(os.listdir(PACKAGE)):
        if name != "__pycache__":
            with open(os.path.join(PACKAGE, name), encoding="utf-8") as file:
                pairs.append((name, file.read()))
    return pairs


def bound_names(tree):
    """All names that a file binds anywhere."""
    names = set()
    for node in ast.walk(tree):
        if isinstance(node, (ast.FunctionDef, ast.ClassDef)):
            names.add(node.name)
        elif isinstance(node, ast.Name) and isinstance(node.ctx, ast.Store):
            names.add(node.id)
        elif isinstance(node, ast.arg):
            names.add(node.arg)
        elif isinstance(node, ast.alias):
            names.add(node.name)
        elif isinstance(node, ast.ExceptHandler) and node.name:
            names.add(node.name)
    return names


class FormTest(unittest.TestCase):
    def test_names_of_files(self):
        for name, _ in files():
            self.assertRegex(name, r"^[a-z0-9_]+\.py$")

    def test_signs_and_sizes(self):
        for name, text in files():
            with self.subTest(name=name):
                lines = text.split("\n")
                self.assertTrue(all(sign == "\n" or " " <= sign <= "~" for sign in text))
                self.assertLessEqual(len(lines), 399)
                self.assertLessEqual(max(len(line) for line in lines), 120)

    def test_functions_have_at_most_forty_lines(self):
        for name, text in files():
            for node in ast.walk(ast.parse(text)):
                if isinstance(node, ast.FunctionDef):
                    with self.subTest(name=name, function=node.name):
                        self.assertLessEqual(node.end_lineno - node.lineno + 1, 40)

    def test_imports_come_from_the_package_itself(self):
        for name, text in files():
            for node in ast.walk(ast.parse(text)):
                with self.subTest(name=name):
                    self.assertNotIsInstance(node, ast.Import)
                    if isinstance(node, ast.ImportFrom):
                        self.assertTrue(node.module.startswith("bentthrough.") or node.module in LIBRARY, node.module)
                        self.assertEqual(node.level, 0)

    def test_builtins_that_are_used(self):
        for name, text in files():
            tree = ast.parse(text)
            known = bound_names(tree) | set(BUILTINS)
            for node in ast.walk(tree):
                if isinstance(node, ast.Name) and isinstance(node.ctx, ast.Load):
                    with self.subTest(name=name, line=node.lineno):
                        self.assertIn(node.id, known)

    def test_no_floats_and_no_division(self):
        for name, text in files():
            for node in ast.walk(ast.parse(text)):
                with self.subTest(name=name):
                    self.assertNotIsInstance(node, ast.Div)
                    self.assertNotIsInstance(getattr(node, "value", None), float)


if __name__ == "__main__":
    unittest.main()
