"""What can be measured of the files of the package: sizes, characters, names, imports."""

import ast
import os
import unittest

TOP = os.path.dirname(os.path.dirname(os.path.abspath(__file__)))
PACKAGE = os.path.join(TOP, "wishesrise")
LIBRARY = {
    "math": {"gcd", "lcm", "isqrt", "comb", "perm", "factorial"},
    "itertools": {"product", "combinations", "permutations"},
}


def files():
    """Each file of the package with its text."""
    found = []
    for name in sorted(os.listdir(PACKAGE)):
        if name != "__pycache__":
            with open(os.path.join(PACKAGE, name), encoding="utf-8", newline="") as file:
                found.append((name, file.read()))
    return found


def rows_of_exit(node):
    """All statements of the __exit__ of a class and of its methods that __exit__ calls, none if it has no __exit__."""
    methods = {part.name: part for part in node.body if isinstance(part, ast.FunctionDef)}
    waiting, found = ["__exit__"], []
    while waiting:
        method = methods.pop(waiting.pop(), None)
        for part in ast.walk(method) if method else ():
            if isinstance(part, ast.stmt) and part is not method:
                found.append(part)
            if isinstance(part, ast.Call) and isinstance(part.func, ast.Attribute):
                waiting.append(part.func.attr)
    return found


def names_an_attribute(row):
    """Tell whether a statement gives an attribute to a local name."""
    return (isinstance(row, ast.Assign) and isinstance(row.value, ast.Attribute)
            and any(isinstance(target, ast.Name) for target in row.targets))


class Layout(unittest.TestCase):
    def test_files(self):
        names = [name for name, _ in files()]
        self.assertIn("__init__.py", names)
        for name in names:
            self.assertRegex(name, r"\A[a-z_]+\.py\Z")

    def test_sizes_and_characters(self):
        for name, text in files():
            lines = text.splitlines()
            self.assertLessEqual(len(lines), 399, name)
            self.assertTrue(all(len(line) <= 120 for line in lines), name)
            self.assertTrue(all(" " <= sign <= "~" or sign == "\n" for sign in text), name)

    def test_functions(self):
        for name, text in files():
            for node in ast.walk(ast.parse(text)):
                if isinstance(node, ast.FunctionDef):
                    self.assertLessEqual(node.end_lineno - node.lineno + 1, 40, (name, node.name))
                self.assertNotIsInstance(node, (ast.Global, ast.AsyncFunctionDef, ast.Div))

    def test_imports(self):
        for name, text in files():
            for node in ast.walk(ast.parse(text)):
                self.assertNotIsInstance(node, ast.Import, name)
                if isinstance(node, ast.ImportFrom) and node.module in LIBRARY:
                    self.assertLessEqual({alias.name for alias in node.names}, LIBRARY[node.module])
                elif isinstance(node, ast.ImportFrom):
                    self.assertTrue(node.module.startswith("wishesrise."), (name, node.module))

    def test_one_name_for_an_attribute_where_a_with_ends(self):
        endings = 0
        for name, text in files():
            for node in ast.walk(ast.parse(text)):
                rows = rows_of_exit(node) if isinstance(node, ast.ClassDef) else []
                self.assertLessEqual(sum(names_an_attribute(row) for row in rows), 1, (name, rows and node.name))
                endings += bool(rows)
        self.assertGreater(endings, 0)


if __name__ == "__main__":
    unittest.main()
