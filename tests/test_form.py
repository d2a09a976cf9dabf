"""The form of the package's files, as far as it is easily asked: sizes, signs, imports, names and expressions."""

import ast
import builtins
import os
import unittest

PACKAGE = os.path.join(os.path.dirname(os.path.dirname(os.path.abspath(__file__))), "bentthrough")
LIBRARY = ("heapq", "math", "itertools", "collections", "__future__")
BUILTINS = (
    "len", "range", "enumerate", "zip", "min", "max", "sum", "abs", "sorted", "reversed", "int", "str", "bool", "list",
    "tuple", "dict", "set", "isinstance", "ord", "repr", "any", "all", "divmod", "pow", "map", "iter", "next", "super",
    "property", "classmethod", "staticmethod", "Exception", "ValueError", "TypeError", "KeyError", "IndexError",
    "LookupError", "ZeroDivisionError", "ArithmeticError", "NotImplemented",
)
NEVER = ("register", "mro", "elements", "open", "input", "law", "version_info", "format", "type", "id", "dir", "vars",
         "compile", "exit", "help", "super", "os", "sys", "gc")
METHODS = ("append", "clear", "copy", "count", "endswith", "extend", "find", "get", "index", "insert", "isalnum",
           "isalpha", "isdigit", "isascii", "islower", "isspace", "isupper", "items", "join", "keys", "ljust", "lower",
           "lstrip", "partition", "pop", "remove", "replace", "reverse", "rjust", "setdefault", "split", "startswith",
           "strip", "update", "upper", "values", "zfill", "bit_length", "add", "discard")


def files():
    """The pairs (name, text) of the package's files."""
    pairs = []
    for name in sorted(os.listdir(PACKAGE)):
        if name != "__pycache__":
            with open(os.path.join(PACKAGE, name), encoding="utf-8") as file:
                pairs.append((name, file.read()))
    return pairs


def bound_names(tree):
    """All names that a file binds anywhere."""
    names = set()
    for node in ast.walk(tree):
        if isinstance(node, (ast.FunctionDef, ast.ClassDef)):
            names.add(node.name)
        elif isinstance(node, ast.Name) and isinstance(node.ctx, ast.Store):
            names.add(node.id)
        elif isinstance(node, ast.arg):
            names.add(node.arg)
        elif isinstance(node, ast.alias):
            names.add(node.name)
        elif isinstance(node, ast.ExceptHandler) and node.name:
            names.add(node.name)
    return names


def outer_names(tree):
    """The names of a file's imports and classes."""
    names = [alias.name for node in tree.body if isinstance(node, ast.ImportFrom) for alias in node.names]
    return names + [node.name for node in tree.body if isinstance(node, ast.ClassDef)]


def inner_names(tree):
    """The names of parameters and local variables of all functions."""
    nodes = [node for outer in ast.walk(tree) if isinstance(outer, ast.FunctionDef) for node in ast.walk(outer)]
    return [node.arg for node in nodes if isinstance(node, ast.arg)] + [
        node.id for node in nodes if isinstance(node, ast.Name) and isinstance(node.ctx, ast.Store)]


def own_names():
    """The names of all functions, methods and attributes that the package defines."""
    nodes = [node for _, text in files() for node in ast.walk(ast.parse(text))]
    return {node.name for node in nodes if isinstance(node, ast.FunctionDef)} | {
        node.attr for node in nodes if isinstance(node, ast.Attribute) and isinstance(node.ctx, ast.Store)}


class FormTest(unittest.TestCase):
    def test_names_of_files(self):
        for name, _ in files():
            self.assertRegex(name, r"^[a-z0-9_]+\.py$")

    def test_signs_and_sizes(self):
        for name, text in files():
            with self.subTest(name=name):
                lines = text.split("\n")
                self.assertTrue(all(sign == "\n" or " " <= sign <= "~" for sign in text))
                self.assertLessEqual(len(lines), 399)
                self.assertLessEqual(max(len(line) for line in lines), 120)

    def test_functions_have_at_most_forty_lines(self):
        for name, text in files():
            for node in ast.walk(ast.parse(text)):
                if isinstance(node, ast.FunctionDef):
                    with self.subTest(name=name, function=node.name):
                        self.assertLessEqual(node.end_lineno - node.lineno + 1, 40)

    def test_imports_come_from_the_package_itself(self):
        for name, text in files():
            for node in ast.walk(ast.parse(text)):
                with self.subTest(name=name):
                    self.assertNotIsInstance(node, ast.Import)
                    if isinstance(node, ast.ImportFrom):
                        self.assertTrue(node.module.startswith("bentthrough.") or node.module in LIBRARY, node.module)
                        self.assertEqual(node.level, 0)

    def test_builtins_that_are_used(self):
        for name, text in files():
            tree = ast.parse(text)
            known = bound_names(tree) | set(BUILTINS)
            for node in ast.walk(tree):
                if isinstance(node, ast.Name) and isinstance(node.ctx, ast.Load):
                    with self.subTest(name=name, line=node.lineno):
                        self.assertIn(node.id, known)

    def test_no_floats_and_no_division(self):
        for name, text in files():
            for node in ast.walk(ast.parse(text)):
                with self.subTest(name=name):
                    self.assertNotIsInstance(node, ast.Div)
                    self.assertNotIsInstance(getattr(node, "value", None), float)

    def test_inner_names_are_not_those_of_imports_classes_or_builtins(self):
        for name, text in files():
            tree = ast.parse(text)
            with self.subTest(name=name):
                self.assertEqual(set(inner_names(tree)) & (set(outer_names(tree)) | set(dir(builtins))), set())
                self.assertEqual(len(outer_names(tree)), len(set(outer_names(tree))))

    def test_all_imports_are_used(self):
        for name, text in files():
            tree = ast.parse(text)
            read = {node.id for node in ast.walk(tree) if isinstance(node, ast.Name)}
            with self.subTest(name=name):
                self.assertLessEqual(set(outer_names(tree)) - read, {node.name for node in tree.body
                                                                     if isinstance(node, ast.ClassDef)})

    def test_names_and_methods_that_are_used(self):
        methods = own_names() | set(METHODS)
        for name, text in files():
            tree = ast.parse(text)
            with self.subTest(name=name):
                self.assertEqual(bound_names(tree) & set(NEVER), set())
                for node in ast.walk(tree):
                    if isinstance(node, ast.Attribute):
                        self.assertIn(node.attr, methods)

    def test_ends_of_with_statements_only_assign(self):
        """Names get attributes of `self`, attributes get names or attributes of names, perhaps if `kind` is None."""
        found = [node for _, text in files() for node in ast.walk(ast.parse(text))
                 if isinstance(node, ast.FunctionDef) and node.name == "__exit__"]
        self.assertTrue(found)
        for function in found:
            names, rows = set(), []
            for node in function.body:
                rows += node.body if isinstance(node, ast.If) else [node]
                if isinstance(node, ast.If):
                    self.assertIn(ast.unparse(node.test), ("kind is None", "kind is not None"))
                    self.assertEqual(node.orelse, [])
            for node in rows:
                self.assertIsInstance(node, ast.Assign)
                target, = node.targets
                if isinstance(target, ast.Name):
                    self.assertNotIn(target.id, names)
                    self.assertEqual(node.value.value.id, "self")
                    names.add(target.id)
                else:
                    self.assertIn(target.value.id, {"self", *names})
                    self.assertIn((node.value if isinstance(node.value, ast.Name) else node.value.value).id, names)

    def test_expressions_that_are_left_out(self):
        kinds = (ast.GeneratorExp, ast.Lambda, ast.Yield, ast.YieldFrom, ast.Await, ast.Global, ast.Set, ast.Delete,
                 ast.AnnAssign, ast.AsyncFunctionDef)
        for name, text in files():
            for node in ast.walk(ast.parse(text)):
                with self.subTest(name=name):
                    self.assertNotIsInstance(node, kinds)
                    if isinstance(node, ast.BinOp) and isinstance(node.op, ast.Pow):
                        self.assertIsInstance(node.right, ast.Constant)
                    if isinstance(node, ast.Constant) and isinstance(node.value, str):
                        self.assertNotIn("%", node.value)


if __name__ == "__main__":
    unittest.main()
