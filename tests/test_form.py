"""The form of the package's files: those rows of the language rules that are plainly to be seen."""

import ast
import builtins
import pathlib
import re
import unittest

PACKAGE = pathlib.Path(__file__).resolve().parent.parent / "batchyard"

BUILTINS = {
    "len", "range", "enumerate", "zip", "min", "max", "sum", "abs", "sorted", "reversed", "int", "str", "bool",
    "list", "tuple", "dict", "set", "frozenset", "isinstance", "ord", "repr", "any", "all", "divmod", "iter",
    "next", "map", "Exception", "ValueError", "TypeError", "KeyError", "IndexError", "LookupError",
    "ZeroDivisionError", "ArithmeticError", "OverflowError", "RuntimeError", "NotImplementedError",
    "AttributeError", "StopIteration", "NotImplemented",
}
LIBRARY = {
    "heapq": {"heappush", "heappop", "heapify", "heapreplace", "heappushpop"},
    "math": {"gcd", "lcm", "isqrt", "comb", "perm", "factorial"},
    "itertools": {"product", "combinations", "permutations"},
}
BARRED_NODES = (
    ast.Global, ast.AsyncFunctionDef, ast.AsyncFor, ast.AsyncWith, ast.Await, ast.Import, ast.Div,
)
BARRED_NAMES = {"register", "mro", "elements", "open", "input", "law", "version_info", "with_traceback", "add_note"}
MODULE_LEVEL = (ast.FunctionDef, ast.ClassDef, ast.ImportFrom, ast.Assign)


def files():
    return sorted(PACKAGE.rglob("*.py"))


def is_docstring(node):
    return isinstance(node, ast.Expr) and isinstance(node.value, ast.Constant) and isinstance(node.value.value, str)


def names_of(node):
    """The names that a node gives or uses, attributes and keywords included."""
    fields = ("id", "attr", "arg", "name", "asname")
    return [getattr(node, field) for field in fields if isinstance(getattr(node, field, None), str)]


class TestForm(unittest.TestCase):
    def each_node(self):
        for path in files():
            for node in ast.walk(ast.parse(path.read_text("utf-8"))):
                with self.subTest(file=path.name, line=getattr(node, "lineno", None)):
                    yield node

    def test_the_folder_holds_plain_python_files_alone(self):
        found = [path for path in PACKAGE.rglob("*") if "__pycache__" not in path.parts]
        for path in found:
            if path.is_file():
                self.assertRegex(path.name, r"\A(__init__|__main__|[a-z][a-z0-9_]*)\.py\Z")
            else:
                self.assertTrue((path / "__init__.py").is_file(), path)
        self.assertTrue((PACKAGE / "__init__.py").is_file())
        self.assertLessEqual(len(found), 100)

    def test_sizes_and_characters(self):
        for path in files():
            text = path.read_text("utf-8")
            lines = text.split("\n")
            self.assertLessEqual(len(lines), 400, path)
            self.assertLessEqual(max(map(len, lines)), 120, path)
            self.assertIsNone(re.search(r"[^ -~\n]", text), path)

    def test_functions_have_at_most_40_lines(self):
        for node in self.each_node():
            if isinstance(node, ast.FunctionDef):
                self.assertLessEqual(node.end_lineno - node.lineno + 1, 40)

    def test_nothing_is_barred(self):
        for node in self.each_node():
            self.assertNotIsInstance(node, BARRED_NODES)
            self.assertFalse(isinstance(node, ast.Constant) and isinstance(node.value, (float, complex)))
            self.assertFalse(isinstance(node, ast.Constant) and isinstance(node.value, str) and "%" in node.value)
            for name in names_of(node):
                self.assertNotIn(name, BARRED_NAMES)

    def test_imports_are_of_the_package_by_full_names(self):
        for node in self.each_node():
            if not isinstance(node, ast.ImportFrom):
                continue
            self.assertEqual(node.level, 0)
            names = [alias.name for alias in node.names]
            self.assertNotIn("*", names)
            if node.module in LIBRARY:
                self.assertLessEqual(set(names), LIBRARY[node.module])
            elif node.module != "__future__":
                self.assertTrue(node.module.startswith("batchyard."), node.module)

    def test_no_builtin_but_the_listed_ones(self):
        for node in self.each_node():
            if isinstance(node, ast.Name) and node.id in dir(builtins):
                self.assertIn(node.id, BUILTINS)
                self.assertIsInstance(node.ctx, ast.Load)

    def test_module_level_holds_definitions_alone(self):
        for path in files():
            if path.name == "__main__.py":
                continue
            for node in ast.parse(path.read_text("utf-8")).body:
                with self.subTest(file=path.name, line=node.lineno):
                    self.assertTrue(isinstance(node, MODULE_LEVEL) or is_docstring(node))
                    if isinstance(node, ast.Assign):
                        calls = [part for part in ast.walk(node.value) if isinstance(part, ast.Call)]
                        self.assertEqual(calls, [])

    def test_the_program_is_read_from_this_checkout(self):
        import batchyard
        self.assertEqual(pathlib.Path(batchyard.__file__).resolve().parent, PACKAGE)


if __name__ == "__main__":
    unittest.main()
