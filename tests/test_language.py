"""The rules of LANGUAGE.md that can be seen from the syntax of the package's files."""

import ast
import builtins
import pathlib
import re
import unittest

PACKAGE = pathlib.Path(__file__).resolve().parent.parent / "pinsenough"
BUILTINS = ("len range enumerate zip min max sum abs sorted reversed int str bool list tuple dict set isinstance ord repr any all "
            "divmod map iter next ValueError TypeError KeyError IndexError LookupError NotImplemented").split()
METHODS = ("append clear copy count endswith extend find get index insert isalnum isalpha isdigit islower isspace isupper items "
           "join keys ljust lower lstrip partition pop remove replace reverse rfind rjust rpartition rsplit rstrip setdefault "
           "split splitlines startswith strip update upper values zfill bit_length add discard").split()
LIBRARY = {"heapq": ["heappush", "heappop"], "math": ["gcd", "lcm", "isqrt", "comb"], "itertools": ["product", "combinations"]}
BARRED = ("type typing enum Enum Flag Generic Protocol ABC namedtuple NamedTuple register mro elements open input law eval exec "
          "compile globals locals vars getattr setattr hasattr delattr super id os").split()
STATEMENTS = (ast.Assign, ast.AugAssign, ast.If, ast.While, ast.For, ast.Return, ast.Break, ast.Continue, ast.Pass, ast.Raise,
              ast.Delete, ast.Expr, ast.Try, ast.Import, ast.ImportFrom, ast.FunctionDef, ast.ClassDef)
BARRED_NODES = (ast.Yield, ast.YieldFrom, ast.Await, ast.Div, ast.Global, ast.Nonlocal, ast.NamedExpr, ast.Set, ast.AnnAssign)
TAKERS = ("list", "tuple", "dict", "sorted", "sum", "any", "all", "enumerate", "zip", "min", "max", "len", "reversed",
          "combinations")
HELD = ("items keys values pop update append clear extend insert remove reverse setdefault sort args encode decode hex fromhex "
        "format").split()
ITERATED = ("any", "all", "min", "max", "sum", "sorted")


def files():
    return sorted(PACKAGE.rglob("*.py"))


def functions(tree):
    return [row for row in ast.walk(tree) if isinstance(row, ast.FunctionDef)]


class LanguageTest(unittest.TestCase):
    def trees(self):
        for path in files():
            yield path.name, ast.parse(path.read_text())

    def test_files(self):
        for path in PACKAGE.iterdir():
            if path.name != "__pycache__":
                self.assertTrue(path.is_file() and re.fullmatch(r"[a-z_]+\.py", path.name), path)

    def test_sizes_and_characters(self):
        for path in files():
            text = path.read_text()
            lines = text.split("\n")
            self.assertLessEqual(len(lines), 399, path)
            for line in lines:
                self.assertLessEqual(len(line), 120, (path, line))
                self.assertEqual(line, line.rstrip(), path)
            self.assertRegex(text, r"\A[ -~\n]*\Z", path)
            self.assertNotRegex(text, r"_wall|_WallAttr", path)
        for name, tree in self.trees():
            for row in functions(tree):
                self.assertLessEqual(row.end_lineno - row.lineno + 1, 40, (name, row.name))

    def test_statements(self):
        for name, tree in self.trees():
            for row in ast.walk(tree):
                if isinstance(row, ast.stmt):
                    self.assertIsInstance(row, STATEMENTS, (name, row.lineno))
                self.assertNotIsInstance(row, BARRED_NODES, (name, getattr(row, "lineno", None)))
                if isinstance(row, (ast.FunctionDef, ast.ClassDef)):
                    self.assertEqual(row.decorator_list, [])
                if isinstance(row, ast.Constant):
                    self.assertIsInstance(row.value, (int, str, bool, type(None)), name)
                    if isinstance(row.value, str):
                        self.assertNotIn("%", row.value, name)
                if isinstance(row, ast.Compare) and any(isinstance(sign, (ast.Is, ast.IsNot)) for sign in row.ops):
                    self.assertIsInstance(row.comparators[0], ast.Constant, name)
                if isinstance(row, ast.Pow):
                    self.fail(f"{name}: exponents are literals")

    def test_module_level(self):
        for name, tree in self.trees():
            for row in tree.body:
                docstring = isinstance(row, ast.Expr) and isinstance(row.value, ast.Constant)
                self.assertTrue(docstring or isinstance(row, (ast.ImportFrom, ast.FunctionDef, ast.ClassDef, ast.Assign)), name)
            bound = [row.name for row in tree.body if isinstance(row, (ast.FunctionDef, ast.ClassDef))]
            bound += [row.targets[0].id for row in tree.body if isinstance(row, ast.Assign)]
            bound += [alias.name for row in tree.body if isinstance(row, ast.ImportFrom) for alias in row.names]
            self.assertEqual(len(bound), len(set(bound)), name)

    def test_imports(self):
        for name, tree in self.trees():
            used = {row.id for row in ast.walk(tree) if isinstance(row, ast.Name)}
            for row in ast.walk(tree):
                self.assertNotIsInstance(row, ast.Import, name)
                if isinstance(row, ast.ImportFrom):
                    self.assertEqual(row.level, 0, name)
                    for alias in row.names:
                        self.assertIsNone(alias.asname, name)
                        self.assertIn(alias.name, used, name)
                        if row.module not in LIBRARY:
                            self.assertTrue(row.module.startswith("pinsenough."), name)
                            tree_of = ast.parse((PACKAGE / (row.module.partition(".")[2] + ".py")).read_text())
                            own = [top.name for top in tree_of.body if hasattr(top, "name")]
                            own += [top.targets[0].id for top in tree_of.body if isinstance(top, ast.Assign)]
                            self.assertIn(alias.name, own, name)
                        else:
                            self.assertIn(alias.name, LIBRARY[row.module], name)

    def test_names(self):
        for name, tree in self.trees():
            bound = {row.name for row in tree.body if isinstance(row, (ast.FunctionDef, ast.ClassDef))}
            bound |= {alias.name for row in tree.body if isinstance(row, ast.ImportFrom) for alias in row.names}
            for row in ast.walk(tree):
                if isinstance(row, ast.Name) and hasattr(builtins, row.id):
                    self.assertIsInstance(row.ctx, ast.Load, (name, row.id))
                    self.assertIn(row.id, BUILTINS, name)
                if isinstance(row, ast.Name) and isinstance(row.ctx, ast.Store):
                    self.assertNotIn(row.id, bound, name)
                if isinstance(row, ast.Name) and row.id == "_":
                    self.assertIsInstance(row.ctx, ast.Store, name)
                if isinstance(row, ast.arg):
                    self.assertFalse(hasattr(builtins, row.arg) or row.arg in bound, (name, row.arg))
                if isinstance(row, (ast.Name, ast.Attribute, ast.arg)):
                    told = getattr(row, "id", None) or getattr(row, "attr", None) or getattr(row, "arg", None)
                    self.assertNotIn(told, BARRED, name)
                    self.assertFalse(told.startswith("__"), name)

    def test_methods(self):
        own = {row.name for _, tree in self.trees() for row in functions(tree)}
        for name, tree in self.trees():
            for row in ast.walk(tree):
                if isinstance(row, ast.Call) and isinstance(row.func, ast.Attribute):
                    self.assertIn(row.func.attr, [*METHODS, *own], name)
                    self.assertEqual(row.keywords, [], name)

    def test_iterated_at_once(self):
        for name, tree in self.trees():
            for row in ast.walk(tree):
                # A list is taken where a class with == would forbid a generator.
                if isinstance(row, ast.Call) and isinstance(row.func, ast.Name) and row.func.id in ITERATED:
                    for part in row.args:
                        self.assertNotIsInstance(part, ast.GeneratorExp, (name, row.lineno))
                if isinstance(row, ast.Assign) and isinstance(row.value, ast.Call) and isinstance(row.value.func, ast.Name):
                    self.assertNotIn(row.value.func.id, ["zip", "enumerate", "reversed", "map", "set"], (name, row.lineno))

    def test_views_go_straight_into_what_iterates(self):
        for name, tree in self.trees():
            for row in ast.walk(tree):
                for part in ast.iter_child_nodes(row):
                    if not isinstance(part, ast.Call):
                        continue
                    called = part.func.id if isinstance(part.func, ast.Name) else getattr(part.func, "attr", None)
                    view = isinstance(part.func, ast.Attribute) and called in ("items", "keys", "values")
                    if view or called in ("range", "zip", "enumerate", "reversed", "map", "combinations", "product"):
                        taken = isinstance(row, (ast.For, ast.comprehension)) and row.iter is part
                        given = isinstance(row, ast.Call) and isinstance(row.func, ast.Name) and row.func.id in TAKERS
                        self.assertTrue(taken or given, (name, part.lineno))

    def test_methods_and_attributes(self):
        """No name is a method and an attribute in one class, and no attribute is called as a method of a list or a dict."""
        for name, tree in self.trees():
            for top in tree.body:
                if isinstance(top, ast.ClassDef):
                    methods = [row.name for row in top.body if isinstance(row, ast.FunctionDef)]
                    self.assertEqual(len(methods), len(set(methods)))
                    stored = {row.attr for row in ast.walk(top) if isinstance(row, ast.Attribute) and isinstance(row.ctx, ast.Store)}
                    self.assertEqual(stored & {*methods, *HELD}, set(), (name, top.name))
                    allowed = [method for method in methods if method.startswith("__")]
                    self.assertLessEqual(set(allowed), {"__init__", "__eq__"})

    def test_no_function_calls_itself(self):
        for name, tree in self.trees():
            for row in functions(tree):
                called = [part.func.id for part in ast.walk(row) if isinstance(part, ast.Call) and isinstance(part.func, ast.Name)]
                self.assertNotIn(row.name, called, name)


if __name__ == "__main__":
    unittest.main()
