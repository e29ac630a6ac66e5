"""What a script can see of the rules for the files of the package."""

import ast
import builtins
import pathlib
import re
import unittest

PACKAGE = pathlib.Path(__file__).resolve().parent.parent / "indexturns"
BUILTINS = {name for name in dir(builtins) if not name.startswith("_")}
ALLOWED_BUILTINS = """
    len range enumerate zip min max sum abs sorted reversed int str bool list tuple dict set
    frozenset isinstance ord repr any all divmod pow getattr hasattr setattr iter next type map
    super property staticmethod classmethod NotImplemented Exception ValueError TypeError KeyError
    IndexError LookupError ZeroDivisionError ArithmeticError OverflowError RuntimeError
    NotImplementedError AttributeError StopIteration""".split()
BARRED = """
    register mro elements open input law version_info with_traceback add_note attrgetter breakpoint builtins compile
    copyright credits delattr dir eval exec exit gc globals help id importlib license locals methodcaller os quit vars
    sys""".split()
METHODS = ["__init__", "__eq__", "__repr__", "__str__", "__len__", "__enter__", "__exit__", "__call__", "__iter__"]
NODES = (ast.AsyncFunctionDef, ast.Global, ast.Await, ast.Import, ast.AsyncFor, ast.AsyncWith)


def files():
    """The files of the package; what Python itself keeps there when it runs is none of it."""
    return sorted(path for path in PACKAGE.rglob("*") if path.is_file() and path.parent.name != "__pycache__")


def trees():
    return [(path.name, ast.parse(path.read_text(encoding="utf-8"))) for path in files()]


def names(tree):
    """All names that a file binds or reads, but for attributes."""
    for node in ast.walk(tree):
        if isinstance(node, ast.Name):
            yield node.id
        elif isinstance(node, (ast.FunctionDef, ast.ClassDef)):
            yield node.name
        elif isinstance(node, ast.arg):
            yield node.arg
        elif isinstance(node, ast.alias):
            yield node.name


class FilesTest(unittest.TestCase):
    def test_files(self):
        found = files()
        self.assertIn(PACKAGE / "__init__.py", found)
        self.assertLessEqual(len(found), 100)
        for path in found:
            self.assertRegex(path.relative_to(PACKAGE).as_posix(), r"\A(__init__|[a-z][a-z0-9_]*)\.py\Z")

    def test_characters(self):
        for path in files():
            text = path.read_bytes()
            self.assertTrue(all(sign == 10 or 32 <= sign <= 126 for sign in text), path.name)

    def test_sizes(self):
        for path in files():
            lines = path.read_text(encoding="utf-8").split("\n")
            self.assertLessEqual(len(lines), 399, path.name)
            self.assertLessEqual(max(len(line) for line in lines), 120, path.name)

    def test_sizes_of_functions(self):
        for name, tree in trees():
            for node in ast.walk(tree):
                if isinstance(node, (ast.FunctionDef, ast.Lambda)):
                    self.assertLessEqual(node.end_lineno - node.lineno + 1, 40, (name, node.lineno))


class WordsTest(unittest.TestCase):
    def test_imports_are_by_full_names_from_the_package(self):
        for name, tree in trees():
            for node in ast.walk(tree):
                self.assertNotIsInstance(node, NODES, name)
                if isinstance(node, ast.ImportFrom):
                    self.assertEqual(node.level, 0, name)
                    self.assertRegex(node.module, r"\A(indexturns\.\w+|heapq|math|itertools|collections)\Z")
                    self.assertNotIn("*", [alias.name for alias in node.names])

    def test_names_of_the_library_are_only_called(self):
        for name, tree in trees():
            imports = [node for node in ast.walk(tree) if isinstance(node, ast.ImportFrom) and node.module == "math"]
            words = [alias.name for node in imports for alias in node.names]
            self.assertLessEqual(set(words), {"gcd", "lcm", "isqrt", "comb", "perm", "factorial"}, name)
            calls = [node for node in ast.walk(tree) if isinstance(node, ast.Call)]
            called = [node.func for node in calls if isinstance(node.func, ast.Name) and node.func.id in words]
            read = [node for node in ast.walk(tree) if isinstance(node, ast.Name) and node.id in words]
            self.assertEqual(len(called), len(read), name)
            for node in calls:
                if node.func in called:
                    self.assertEqual(node.keywords, [], name)
                    self.assertFalse(any(isinstance(part, ast.Starred) for part in node.args), name)

    def test_no_variable_has_the_name_of_an_import_or_a_class(self):
        for name, tree in trees():
            taken = [alias.name for node in ast.walk(tree) if isinstance(node, ast.ImportFrom) for alias in node.names]
            taken += [node.name for node in tree.body if isinstance(node, (ast.ClassDef, ast.FunctionDef))]
            self.assertEqual(len(taken), len(set(taken)), name)
            for node in ast.walk(tree):
                if isinstance(node, ast.arg):
                    self.assertNotIn(node.arg, taken, (name, node.lineno))
                if isinstance(node, ast.Name) and isinstance(node.ctx, ast.Store):
                    self.assertNotIn(node.id, taken, (name, node.lineno))

    def test_no_import_leads_back(self):
        ahead = {}
        for name, tree in trees():
            modules = [node.module for node in ast.walk(tree) if isinstance(node, ast.ImportFrom)]
            ahead["indexturns." + name[:-3]] = [module for module in modules if module.startswith("indexturns.")]
        while ahead:
            ready = [module for module in ahead if not any(other in ahead for other in ahead[module])]
            self.assertTrue(ready, ahead)
            for module in ready:
                del ahead[module]

    def test_names(self):
        for name, tree in trees():
            for word in names(tree):
                self.assertTrue(word in ALLOWED_BUILTINS or word not in BUILTINS, (name, word))
                self.assertNotIn(word, BARRED, name)
                self.assertTrue(word in METHODS or not word.startswith("__"), (name, word))

    def test_bound_names_are_no_builtins(self):
        for name, tree in trees():
            for node in ast.walk(tree):
                if isinstance(node, ast.Name) and isinstance(node.ctx, ast.Store):
                    self.assertFalse(node.id in BUILTINS, (name, node.id))
                if isinstance(node, ast.arg):
                    self.assertFalse(node.arg in BUILTINS, (name, node.arg))

    def test_no_generator_expressions(self):
        # Beside a class with __eq__, most of what could take one takes a list only.
        for name, tree in trees():
            for node in ast.walk(tree):
                self.assertNotIsInstance(node, ast.GeneratorExp, (name, getattr(node, "lineno", None)))

    def test_exponents_are_literals(self):
        for name, tree in trees():
            for node in ast.walk(tree):
                if isinstance(node, ast.BinOp) and isinstance(node.op, ast.Pow):
                    self.assertIsInstance(node.right, ast.Constant, (name, node.lineno))
                    self.assertIn(node.right.value, range(65), (name, node.lineno))

    def test_no_floats_and_no_true_division(self):
        for name, tree in trees():
            for node in ast.walk(tree):
                self.assertNotIsInstance(node, ast.Div, name)
                if isinstance(node, ast.Constant):
                    self.assertNotIsInstance(node.value, (float, complex), (name, node.lineno))
                    if isinstance(node.value, str):
                        self.assertIsNone(re.search(r"%", node.value), (name, node.lineno))


if __name__ == "__main__":
    unittest.main()
