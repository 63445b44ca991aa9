"""The form of the package's files: those rows of the language rules that are plainly to be seen."""

import ast
import builtins
import pathlib
import re
import unittest

PACKAGE = pathlib.Path(__file__).resolve().parent.parent / "batchyard"

BUILTINS = {
    "len", "range", "enumerate", "zip", "min", "max", "sum", "abs", "sorted", "reversed", "int", "str", "bool",
    "list", "tuple", "dict", "set", "frozenset", "isinstance", "ord", "repr", "any", "all", "divmod", "iter",
    "next", "map", "Exception", "ValueError", "TypeError", "KeyError", "IndexError", "LookupError",
    "ZeroDivisionError", "ArithmeticError", "OverflowError", "RuntimeError", "NotImplementedError",
    "AttributeError", "StopIteration", "NotImplemented",
}
LIBRARY = {
    "heapq": {"heappush", "heappop", "heapify", "heapreplace", "heappushpop"},
    "math": {"gcd", "lcm", "isqrt", "comb", "perm", "factorial"},
    "itertools": {"product", "combinations", "permutations"},
}
BARRED_NODES = (
    ast.Global, ast.AsyncFunctionDef, ast.AsyncFor, ast.AsyncWith, ast.Await, ast.Import, ast.Div,
)
BARRED_NAMES = {"register", "mro", "elements", "open", "input", "law", "version_info", "with_traceback", "add_note"}
BARRED_VARIABLES = {
    "attrgetter", "breakpoint", "builtins", "compile", "copyright", "credits", "delattr", "dir", "eval", "exec", "exit",
    "gc", "getattr", "globals", "hasattr", "help", "id", "importlib", "license", "locals", "methodcaller", "os", "quit",
    "setattr", "super", "type", "vars", "sys", "map", "iter", "next",
    "_cold", "_tuplegetter", "_outside", "_record", "_written_out", "_member_names",
}
DECORATORS = {"property", "staticmethod", "classmethod"}
# The methods of builtin values that are called by their own names, and those that own ones may have, too.
BUILTIN_METHODS = set("""
append clear copy count endswith extend find get index insert isalnum isalpha isdigit islower isspace isupper items
join keys ljust lower lstrip partition pop remove replace reverse rfind rjust rpartition rsplit rstrip setdefault
split splitlines startswith strip update upper values zfill bit_length add discard sort
""".split())
MODULE_LEVEL = (ast.FunctionDef, ast.ClassDef, ast.ImportFrom, ast.Assign)


def files():
    return sorted(PACKAGE.rglob("*.py"))


def is_docstring(node):
    return isinstance(node, ast.Expr) and isinstance(node.value, ast.Constant) and isinstance(node.value.value, str)


def names_of(node):
    """The names that a node gives or uses, attributes and keywords included."""
    fields = ("id", "attr", "arg", "name", "asname")
    return [getattr(node, field) for field in fields if isinstance(getattr(node, field, None), str)]


def parsed(path):
    return ast.parse(path.read_text("utf-8"))


def bound_by(node):
    """The names that a statement at module level binds."""
    if isinstance(node, ast.ImportFrom):
        return [alias.asname or alias.name for alias in node.names]
    if isinstance(node, (ast.FunctionDef, ast.ClassDef)):
        return [node.name]
    if isinstance(node, ast.Assign):
        return [target.id for target in node.targets]
    return []


def variables(tree):
    """The names of all functions, classes, parameters and variables, but of methods, with their lines."""
    methods = [part for node in ast.walk(tree) if isinstance(node, ast.ClassDef) for part in node.body]
    found = []
    for node in ast.walk(tree):
        if isinstance(node, ast.Name) and isinstance(node.ctx, ast.Store):
            found.append((node.id, node.lineno))
        if isinstance(node, ast.arg):
            found.append((node.arg, node.lineno))
        if isinstance(node, ast.FunctionDef) and node not in methods:
            found.append((node.name, node.lineno))
    return found


def is_set(node):
    if isinstance(node, (ast.Set, ast.SetComp)):
        return True
    return isinstance(node, ast.Call) and isinstance(node.func, ast.Name) and node.func.id == "set"


class TestForm(unittest.TestCase):
    def each_node(self):
        for path in files():
            for node in ast.walk(ast.parse(path.read_text("utf-8"))):
                with self.subTest(file=path.name, line=getattr(node, "lineno", None)):
                    yield node

    def test_the_folder_holds_plain_python_files_alone(self):
        found = [path for path in PACKAGE.rglob("*") if "__pycache__" not in path.parts]
        for path in found:
            if path.is_file():
                self.assertRegex(path.name, r"\A(__init__|__main__|[a-z][a-z0-9_]*)\.py\Z")
            else:
                self.assertTrue((path / "__init__.py").is_file(), path)
        self.assertTrue((PACKAGE / "__init__.py").is_file())
        self.assertLessEqual(len(found), 100)

    def test_sizes_and_characters(self):
        for path in files():
            text = path.read_text("utf-8")
            lines = text.split("\n")
            self.assertLessEqual(len(lines), 400, path)
            self.assertLessEqual(max(map(len, lines)), 120, path)
            self.assertIsNone(re.search(r"[^ -~\n]", text), path)

    def test_functions_have_at_most_40_lines(self):
        for node in self.each_node():
            if isinstance(node, ast.FunctionDef):
                self.assertLessEqual(node.end_lineno - node.lineno + 1, 40)

    def test_nothing_is_barred(self):
        for node in self.each_node():
            self.assertNotIsInstance(node, BARRED_NODES)
            self.assertFalse(isinstance(node, ast.Constant) and isinstance(node.value, (float, complex)))
            self.assertFalse(isinstance(node, ast.Constant) and isinstance(node.value, str) and "%" in node.value)
            for name in names_of(node):
                self.assertNotIn(name, BARRED_NAMES)

    def test_imports_are_of_the_package_by_full_names(self):
        for node in self.each_node():
            if not isinstance(node, ast.ImportFrom):
                continue
            self.assertEqual(node.level, 0)
            names = [alias.name for alias in node.names]
            self.assertNotIn("*", names)
            if node.module in LIBRARY:
                self.assertLessEqual(set(names), LIBRARY[node.module])
            elif node.module != "__future__":
                self.assertTrue(node.module.startswith("batchyard."), node.module)

    def test_no_builtin_but_the_listed_ones(self):
        decorators = [part for node in self.each_node() for part in getattr(node, "decorator_list", [])]
        names = {(part.id, part.lineno) for part in decorators if isinstance(part, ast.Name)}
        self.assertLessEqual({name for name, _ in names}, DECORATORS)
        for node in self.each_node():
            if isinstance(node, ast.Name) and node.id in dir(builtins) and (node.id, node.lineno) not in names:
                self.assertIn(node.id, BUILTINS)
                self.assertIsInstance(node.ctx, ast.Load)

    def test_decorators_stand_over_methods_alone(self):
        for node in self.each_node():
            if isinstance(node, ast.ClassDef):
                self.assertEqual(node.decorator_list, [])
            if isinstance(node, ast.Module):
                plain = [part for part in node.body if isinstance(part, ast.FunctionDef)]
                self.assertEqual([part.name for part in plain if part.decorator_list], [])

    def test_module_level_holds_definitions_alone(self):
        for path in files():
            if path.name == "__main__.py":
                continue
            for node in ast.parse(path.read_text("utf-8")).body:
                with self.subTest(file=path.name, line=node.lineno):
                    self.assertTrue(isinstance(node, MODULE_LEVEL) or is_docstring(node))
                    if isinstance(node, ast.Assign):
                        calls = [part for part in ast.walk(node.value) if isinstance(part, ast.Call)]
                        self.assertEqual(calls, [])

    def test_each_name_is_bound_once_at_module_level(self):
        for path in files():
            found = [name for node in parsed(path).body for name in bound_by(node)]
            self.assertEqual(sorted(found), sorted(set(found)), path)

    def test_imports_name_the_file_that_defines(self):
        for path in files():
            for node in parsed(path).body:
                if not isinstance(node, ast.ImportFrom) or not node.module.startswith("batchyard."):
                    continue
                source = parsed(PACKAGE / (node.module.split(".", 1)[1].replace(".", "/") + ".py"))
                defined = [name for part in source.body if not isinstance(part, ast.ImportFrom) for name in bound_by(part)]
                for alias in node.names:
                    self.assertIn(alias.name, defined, path)

    def test_imports_go_one_way(self):
        wants = {f"batchyard.{path.stem}": [node.module for node in parsed(path).body
                                            if isinstance(node, ast.ImportFrom)] for path in files()}
        ordered = []
        while wants:
            ready = [name for name, others in wants.items() if not any(other in wants for other in others)]
            self.assertNotEqual(ready, [], wants)
            ordered.extend(ready)
            for name in ready:
                del wants[name]
        self.assertEqual(len(ordered), len(files()))

    def test_no_variable_has_the_name_of_a_class_or_an_import_or_a_builtin(self):
        for path in files():
            tree = parsed(path)
            taken = [name for node in tree.body if isinstance(node, (ast.ImportFrom, ast.ClassDef))
                     for name in bound_by(node)]
            for name, line in variables(tree):
                with self.subTest(file=path.name, line=line, name=name):
                    self.assertNotIn(name, taken)
                    self.assertNotIn(name, dir(builtins))
                    self.assertNotIn(name, BARRED_VARIABLES)
                    self.assertFalse(name.startswith("__"))

    def test_attributes_are_methods_or_assigned_or_of_builtin_values(self):
        methods, attributes = set(), set()
        for node in self.each_node():
            if isinstance(node, ast.ClassDef):
                methods.update(part.name for part in node.body if isinstance(part, ast.FunctionDef))
            if isinstance(node, ast.Attribute) and isinstance(node.ctx, ast.Store):
                attributes.add(node.attr)
        self.assertEqual(methods & attributes, set())
        builtin = {name for kind in (str, int, list, dict, set, bytes, tuple) for name in dir(kind)}
        own = {name for name in methods | attributes if not name.startswith("__")}
        self.assertEqual(own & (builtin - BUILTIN_METHODS), set())
        for node in self.each_node():
            # A class calls the __init__ of the one below it off that by name.
            if isinstance(node, ast.Attribute) and node.attr != "__init__":
                self.assertIn(node.attr, own | BUILTIN_METHODS)

    def test_init_is_called_off_a_base_class_alone(self):
        for path in files():
            for kind in [node for node in ast.walk(parsed(path)) if isinstance(node, ast.ClassDef)]:
                bases = [base.id for base in kind.bases]
                for node in ast.walk(kind):
                    if isinstance(node, ast.Attribute) and node.attr == "__init__":
                        self.assertIn(node.value.id, bases, (path.name, node.lineno))

    def test_attributes_are_assigned_through_names(self):
        for node in self.each_node():
            if isinstance(node, ast.Attribute) and isinstance(node.ctx, ast.Store):
                part = node.value
                while isinstance(part, (ast.Attribute, ast.Subscript)):
                    part = part.value
                self.assertIsInstance(part, ast.Name)

    def test_double_underscore_methods(self):
        for node in self.each_node():
            if isinstance(node, ast.FunctionDef) and node.name.startswith("__"):
                self.assertIn(node.name, ("__init__", "__len__"))
            if isinstance(node, ast.FunctionDef) and node.name == "__len__":
                last = node.body[-1]
                self.assertIsInstance(last, ast.Return)
                self.assertEqual(ast.unparse(last.value.func), "len")

    def test_handlers_name_own_errors_alone(self):
        for node in self.each_node():
            if isinstance(node, ast.ExceptHandler):
                self.assertNotIn(node.type.id, dir(builtins))

    def test_names_that_no_name_may_begin_with(self):
        barred = r"\A(_wall|_pe_|_dcw_|_enum_|_cm_|_twin_re_|_lay_|_law_|_stub_|_sre|_WallAttr" \
                 r"|(_cold|_tuplegetter|_outside|_record|_written_out|_member_names)[0-9_]*\Z)"
        for node in self.each_node():
            for name in names_of(node):
                self.assertNotRegex(name, barred)

    def test_sets_stand_where_they_are_used_up(self):
        for path in files():
            for node in ast.walk(parsed(path)):
                for child in ast.iter_child_nodes(node):
                    if is_set(child):
                        told = isinstance(node, ast.Call) and isinstance(node.func, ast.Name)
                        self.assertTrue(isinstance(node, (ast.Compare, ast.BinOp))
                                        or told and node.func.id in ("sorted", "len"), (path.name, child.lineno))

    def test_errors_are_raised_on_the_spot_and_caught_by_name(self):
        for node in self.each_node():
            if isinstance(node, ast.ExceptHandler):
                self.assertIsNotNone(node.type)
            if isinstance(node, ast.Raise) and node.exc is not None:
                self.assertIsInstance(node.exc, ast.Call)
                self.assertIsInstance(node.exc.func, ast.Name)

    def test_is_stands_beside_none_true_and_false(self):
        for node in self.each_node():
            if isinstance(node, ast.Compare):
                for sign, part in zip(node.ops, node.comparators):
                    if isinstance(sign, (ast.Is, ast.IsNot)):
                        self.assertIsInstance(part, ast.Constant)
                        self.assertIn(part.value, (None, True, False))

    def test_no_function_of_a_table_is_called_straight(self):
        for node in self.each_node():
            if isinstance(node, ast.Call):
                self.assertIsInstance(node.func, (ast.Name, ast.Attribute))

    def test_the_program_is_read_from_this_checkout(self):
        import batchyard
        self.assertEqual(pathlib.Path(batchyard.__file__).resolve().parent, PACKAGE)


if __name__ == "__main__":
    unittest.main()
