"""Rules of LANGUAGE.md that a short test can check."""

import ast
import builtins
import pathlib
import unittest
import warnings

PACKAGE = pathlib.Path(__file__).resolve().parent.parent / "hushgrain"
FILES = sorted(PACKAGE.glob("*.py"))
LIBRARY = {
    "heapq": {"heappush", "heappop", "heapify", "heapreplace", "heappushpop"},
    "math": {"gcd", "lcm", "isqrt", "comb", "perm", "factorial"},
    "itertools": {"product", "combinations", "permutations"},
}
BUILTINS = set(
    "len range enumerate zip min max sum abs sorted reversed int str bool bytes list tuple dict set"
    " frozenset isinstance ord repr any all divmod iter next map Exception ValueError TypeError KeyError"
    " IndexError LookupError ZeroDivisionError ArithmeticError OverflowError RuntimeError"
    " NotImplementedError AttributeError StopIteration NotImplemented super".split()
)
METHODS = set(
    "append clear copy count endswith extend find get index insert isalnum isalpha isdigit islower"
    " isspace isupper items join keys ljust lower lstrip partition pop remove replace reverse rfind"
    " rjust rpartition rsplit rstrip setdefault split splitlines startswith strip update upper values"
    " zfill bit_length __init__".split()
)
UNUSED = set(
    "register mro elements open input law version_info with_traceback add_note attrgetter breakpoint"
    " compile dir eval exec exit gc getattr globals hasattr help id locals methodcaller os quit setattr"
    " type vars sys __class__ __name__".split()
)
KEPT_APART = {"zip", "enumerate", "reversed", "range"}
PRODUCTS = {"product", "combinations", "permutations"}
TAKERS = {"list", "tuple", "dict", "sorted", "sum", "any", "all", "enumerate", "zip", "min", "max", "len"}


def called(node):
    """The bare name that is called, or None."""
    if isinstance(node, ast.Call) and isinstance(node.func, ast.Name):
        return node.func.id
    return None


class LanguageTest(unittest.TestCase):
    def nodes(self):
        for path in FILES:
            for node in ast.walk(ast.parse(path.read_text("utf-8"))):
                yield path.name, node

    def bound(self, tree):
        """All names that a tree binds, but for methods and attributes."""
        for node in ast.walk(tree):
            if isinstance(node, ast.Name) and isinstance(node.ctx, (ast.Store, ast.Del)):
                yield node.id
            elif isinstance(node, ast.arg):
                yield node.arg

    def test_folder(self):
        self.assertIn("__init__.py", [path.name for path in FILES])
        for path in PACKAGE.iterdir():
            if path.name != "__pycache__":
                self.assertRegex(path.name, r"\A[a-z0-9_]+\.py\Z")

    def test_lines_and_characters(self):
        for path in FILES:
            text = path.read_bytes().decode("ascii")
            lines = text.split("\n")
            self.assertLessEqual(len(lines) - 1, 399, path.name)
            self.assertLessEqual(max(map(len, lines)), 120, path.name)
            self.assertTrue(all(char == "\n" or " " <= char <= "~" for char in text), path.name)

    def test_no_warnings(self):
        with warnings.catch_warnings():
            warnings.simplefilter("error")
            for path in FILES:
                compile(path.read_text("utf-8"), path.name, "exec")

    def test_functions_have_at_most_40_lines(self):
        for name, node in self.nodes():
            if isinstance(node, ast.FunctionDef):
                self.assertLessEqual(node.end_lineno - node.lineno + 1, 40, (name, node.name))

    def test_imports(self):
        for name, node in self.nodes():
            self.assertNotIsInstance(node, ast.Import, name)
            if isinstance(node, ast.ImportFrom):
                names = {alias.name for alias in node.names}
                self.assertEqual(node.level, 0, name)
                if node.module in LIBRARY:
                    self.assertLessEqual(names, LIBRARY[node.module], name)
                    continue
                self.assertTrue(node.module.startswith("hushgrain."), name)
                source = (PACKAGE / (node.module.split(".")[1] + ".py")).read_text("utf-8")
                here = {top.name for top in ast.parse(source).body if hasattr(top, "name")}
                here |= {top.targets[0].id for top in ast.parse(source).body if isinstance(top, ast.Assign)}
                self.assertLessEqual(names, here, (name, node.module))

    def test_values_and_signs(self):
        for name, node in self.nodes():
            self.assertNotIsInstance(node, ast.Div, name)
            if isinstance(node, ast.Constant):
                self.assertNotIsInstance(node.value, float, name)
                if isinstance(node.value, str):
                    self.assertNotIn("%", node.value, name)

    def test_builtins(self):
        every = set(dir(builtins))
        for name, node in self.nodes():
            if isinstance(node, ast.Name) and isinstance(node.ctx, ast.Load) and node.id in every:
                self.assertIn(node.id, BUILTINS, (name, node.lineno))

    def test_no_name_of_a_builtin_or_of_an_import_is_bound(self):
        every = set(dir(builtins)) | UNUSED
        for path in FILES:
            tree = ast.parse(path.read_text("utf-8"))
            taken = set(every)
            for node in ast.walk(tree):
                if isinstance(node, ast.ImportFrom):
                    taken |= {alias.name for alias in node.names}
                elif isinstance(node, ast.ClassDef):
                    taken.add(node.name)
            for bound in self.bound(tree):
                self.assertNotIn(bound, taken, path.name)
            for top in tree.body:
                if isinstance(top, ast.FunctionDef):
                    self.assertNotIn(top.name, taken, path.name)

    def test_methods_of_builtin_values(self):
        own = {node.name for _, node in self.nodes() if isinstance(node, ast.FunctionDef)}
        for name, node in self.nodes():
            if isinstance(node, ast.Call) and isinstance(node.func, ast.Attribute):
                self.assertIn(node.func.attr, METHODS | own, (name, node.lineno))

    def test_no_name_is_a_method_and_an_attribute_of_a_class(self):
        for name, node in self.nodes():
            if isinstance(node, ast.ClassDef):
                methods = [part.name for part in node.body if isinstance(part, ast.FunctionDef)]
                self.assertEqual(len(methods), len(set(methods)), (name, node.name))
                attributes = {
                    part.attr for part in ast.walk(node)
                    if isinstance(part, ast.Attribute) and isinstance(part.ctx, ast.Store)
                }
                self.assertFalse(attributes & set(methods), (name, node.name))

    def test_statements_that_the_program_does_without(self):
        barred = (
            ast.Global, ast.AsyncFunctionDef, ast.Yield, ast.YieldFrom, ast.GeneratorExp,
            ast.Set, ast.SetComp, ast.With, ast.Match, ast.NamedExpr, ast.AnnAssign,
        )
        for name, node in self.nodes():
            self.assertNotIsInstance(node, barred, (name, getattr(node, "lineno", 0)))
            if isinstance(node, (ast.FunctionDef, ast.ClassDef)):
                self.assertEqual(node.decorator_list, [], name)

    def test_only_own_errors_are_caught(self):
        own = {node.name for name, node in self.nodes() if name == "errors.py" and isinstance(node, ast.ClassDef)}
        for name, node in self.nodes():
            if isinstance(node, ast.Try):
                self.assertEqual(node.finalbody, [], name)
            elif isinstance(node, ast.ExceptHandler):
                self.assertIsNone(node.name, name)
                self.assertIn(node.type.id, own, name)

    def test_errors_are_made_where_they_are_raised(self):
        own = {node.name for name, node in self.nodes() if name == "errors.py" and isinstance(node, ast.ClassDef)}
        for name, node in self.nodes():
            if isinstance(node, ast.Raise):
                self.assertIn(called(node.exc), own, (name, node.lineno))

    def test_no_lambda_in_a_comprehension_and_no_two_on_a_line(self):
        lines = []
        for name, node in self.nodes():
            if isinstance(node, (ast.ListComp, ast.DictComp)):
                self.assertFalse([part for part in ast.walk(node) if isinstance(part, ast.Lambda)], name)
            elif isinstance(node, ast.Lambda):
                lines.append((name, node.lineno))
        self.assertEqual(len(lines), len(set(lines)))

    def test_sets_stand_in_sorted_and_len_alone(self):
        for path in FILES:
            tree = ast.parse(path.read_text("utf-8"))
            allowed = []
            for node in ast.walk(tree):
                if called(node) in ("sorted", "len") and not node.keywords:
                    allowed.extend(node.args)
            for node in ast.walk(tree):
                if called(node) == "set":
                    self.assertTrue(any(node is other for other in allowed), (path.name, node.lineno))

    def test_methods_of_builtin_values_have_no_keywords(self):
        for name, node in self.nodes():
            if isinstance(node, ast.Call) and isinstance(node.func, ast.Attribute) and node.func.attr in METHODS:
                self.assertEqual(node.keywords, [], (name, node.lineno))

    def test_tables_of_functions_are_called_by_a_name(self):
        for name, node in self.nodes():
            if isinstance(node, ast.Call):
                self.assertIsInstance(node.func, (ast.Name, ast.Attribute), (name, node.lineno))

    def test_what_is_iterated_at_once(self):
        for path in FILES:
            allowed = []
            tree = ast.parse(path.read_text("utf-8"))
            for node in ast.walk(tree):
                if isinstance(node, (ast.For, ast.comprehension)):
                    allowed.append(node.iter)
                elif called(node) in TAKERS | PRODUCTS or called(node) == "reversed":
                    allowed.extend(node.args)
            for node in ast.walk(tree):
                if called(node) in KEPT_APART:
                    self.assertTrue(any(node is other for other in allowed), (path.name, node.lineno))

    def test_module_level(self):
        plain = (ast.Constant, ast.List, ast.Tuple, ast.Dict, ast.UnaryOp)
        for path in FILES:
            for top in ast.parse(path.read_text("utf-8")).body:
                if isinstance(top, ast.Assign):
                    self.assertEqual(len(top.targets), 1)
                    self.assertIsInstance(top.value, plain, path.name)
                elif not isinstance(top, (ast.ImportFrom, ast.FunctionDef, ast.ClassDef)):
                    self.assertIsInstance(top, ast.Expr, path.name)
                    self.assertIsInstance(top.value, ast.Constant, path.name)

    def test_no_circle_of_imports(self):
        needs = {}
        for path in FILES:
            tree = ast.parse(path.read_text("utf-8"))
            needs[path.stem] = {
                node.module.split(".")[1] for node in ast.walk(tree)
                if isinstance(node, ast.ImportFrom) and node.module.startswith("hushgrain.")
            }
        left = set(needs)
        while left:
            free = {name for name in left if not needs[name] & left}
            self.assertTrue(free, left)
            left -= free


if __name__ == "__main__":
    unittest.main()
