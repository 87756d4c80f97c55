"""A few of the rules of LANGUAGE.md that a short test can check: L1, L2, L7, L10, L14, L27."""

import ast
import pathlib
import unittest
import warnings

PACKAGE = pathlib.Path(__file__).resolve().parent.parent / "hushgrain"
FILES = sorted(PACKAGE.glob("*.py"))
LIBRARY = {
    "heapq": {"heappush", "heappop", "heapify", "heapreplace", "heappushpop"},
    "math": {"gcd", "lcm", "isqrt", "comb", "perm", "factorial"},
    "itertools": {"product", "combinations", "permutations"},
}


class LanguageTest(unittest.TestCase):
    def nodes(self):
        for path in FILES:
            for node in ast.walk(ast.parse(path.read_text("utf-8"))):
                yield path.name, node

    def test_folder(self):
        self.assertIn("__init__.py", [path.name for path in FILES])
        for path in PACKAGE.iterdir():
            if path.name != "__pycache__":
                self.assertRegex(path.name, r"\A[a-z0-9_]+\.py\Z")

    def test_lines_and_characters(self):
        for path in FILES:
            text = path.read_bytes().decode("ascii")
            lines = text.split("\n")
            self.assertLessEqual(len(lines) - 1, 399, path.name)
            self.assertLessEqual(max(map(len, lines)), 120, path.name)
            self.assertTrue(all(char == "\n" or " " <= char <= "~" for char in text), path.name)

    def test_no_warnings(self):
        with warnings.catch_warnings():
            warnings.simplefilter("error")
            for path in FILES:
                compile(path.read_text("utf-8"), path.name, "exec")

    def test_functions_have_at_most_40_lines(self):
        for name, node in self.nodes():
            if isinstance(node, ast.FunctionDef):
                self.assertLessEqual(node.end_lineno - node.lineno + 1, 40, (name, node.name))

    def test_imports(self):
        for name, node in self.nodes():
            self.assertNotIsInstance(node, ast.Import, name)
            if isinstance(node, ast.ImportFrom):
                names = {alias.name for alias in node.names}
                self.assertEqual(node.level, 0, name)
                if node.module in LIBRARY:
                    self.assertLessEqual(names, LIBRARY[node.module], name)
                else:
                    self.assertTrue(node.module.startswith("hushgrain."), name)

    def test_values_and_signs(self):
        for name, node in self.nodes():
            self.assertNotIsInstance(node, ast.Div, name)
            if isinstance(node, ast.Constant):
                self.assertNotIsInstance(node.value, float, name)
                if isinstance(node.value, str):
                    self.assertNotIn("%", node.value, name)


if __name__ == "__main__":
    unittest.main()
