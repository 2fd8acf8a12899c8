"""What can be measured of the files of the package: sizes, characters, names, imports."""

import ast
import os
import unittest

TOP = os.path.dirname(os.path.dirname(os.path.abspath(__file__)))
PACKAGE = os.path.join(TOP, "wishesrise")
LIBRARY = {
    "math": {"gcd", "lcm", "isqrt", "comb", "perm", "factorial"},
    "itertools": {"product", "combinations", "permutations"},
}


def files():
    """Each file of the package with its text."""
    found = []
    for name in sorted(os.listdir(PACKAGE)):
        if name != "__pycache__":
            with open(os.path.join(PACKAGE, name), encoding="utf-8", newline="") as file:
                found.append((name, file.read()))
    return found


class Layout(unittest.TestCase):
    def test_files(self):
        names = [name for name, _ in files()]
        self.assertIn("__init__.py", names)
        for name in names:
            self.assertRegex(name, r"\A[a-z_]+\.py\Z")

    def test_sizes_and_characters(self):
        for name, text in files():
            lines = text.splitlines()
            self.assertLessEqual(len(lines), 399, name)
            self.assertTrue(all(len(line) <= 120 for line in lines), name)
            self.assertTrue(all(" " <= sign <= "~" or sign == "\n" for sign in text), name)

    def test_functions(self):
        for name, text in files():
            for node in ast.walk(ast.parse(text)):
                if isinstance(node, ast.FunctionDef):
                    self.assertLessEqual(node.end_lineno - node.lineno + 1, 40, (name, node.name))
                self.assertNotIsInstance(node, (ast.Global, ast.AsyncFunctionDef, ast.Div))

    def test_imports(self):
        for name, text in files():
            for node in ast.walk(ast.parse(text)):
                self.assertNotIsInstance(node, ast.Import, name)
                if isinstance(node, ast.ImportFrom) and node.module in LIBRARY:
                    self.assertLessEqual({alias.name for alias in node.names}, LIBRARY[node.module])
                elif isinstance(node, ast.ImportFrom):
                    self.assertTrue(node.module.startswith("wishesrise."), (name, node.module))


if __name__ == "__main__":
    unittest.main()
