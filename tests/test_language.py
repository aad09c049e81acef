"""The rules of the language subset that can be seen from the code alone, over every file of the package."""

import ast
import builtins
import pathlib
import re
import unittest

PACKAGE = pathlib.Path(__file__).resolve().parent.parent / "leastreasons"
LIBRARY = {"heapq", "math", "itertools", "collections", "__future__"}
NO_NAMES = {
    "register", "mro", "elements", "open", "input", "law", "version_info", "with_traceback", "add_note",
    "typing", "enum", "Enum", "dataclass", "overload", "contextmanager", "abstractmethod", "namedtuple", "eval", "exec",
    "globals", "locals", "vars", "id", "hash", "filter", "compile", "dir", "help", "exit", "quit",
}
BUILTINS = {
    "len", "range", "enumerate", "zip", "min", "max", "sum", "abs", "sorted", "reversed", "int", "str", "bool", "list",
    "tuple", "dict", "set", "isinstance", "ord", "repr", "any", "all", "divmod", "super", "ValueError", "TypeError",
}
DECORATORS = {"property", "classmethod"}
METHODS = {
    "append", "clear", "copy", "count", "endswith", "extend", "find", "get", "index", "insert", "isalnum", "isalpha",
    "isdigit", "islower", "isspace", "isupper", "items", "join", "keys", "ljust", "lower", "lstrip", "partition", "pop",
    "remove", "replace", "reverse", "rfind", "rjust", "rpartition", "rsplit", "rstrip", "setdefault", "split",
    "splitlines", "startswith", "strip", "update", "upper", "values", "zfill", "bit_length", "__init__",
}
DOUBLE_UNDERSCORES = {
    "__init__", "__eq__", "__ne__", "__len__", "__enter__", "__exit__", "__call__", "__iter__", "__lt__", "__le__",
    "__and__", "__or__", "__xor__", "__iand__", "__ior__", "__ixor__", "__invert__", "__bool__", "__contains__",
    "__getitem__", "__setitem__",
}
MODULE_LEVEL = (ast.ImportFrom, ast.FunctionDef, ast.ClassDef, ast.Assign)
NO_STATEMENTS = (ast.AsyncFunctionDef, ast.AsyncFor, ast.AsyncWith, ast.Import, ast.TryStar, ast.Await, ast.Div)


def files():
    """The files of the package."""
    return [path for path in sorted(PACKAGE.rglob("*")) if "__pycache__" not in path.parts]


def modules():
    """Each file of the package with its syntax tree."""
    return [(path, ast.parse(path.read_text(encoding="utf-8"))) for path in files() if path.suffix == ".py"]


def own_methods():
    """The names of all methods of the package."""
    classes = [node for _, tree in modules() for node in ast.walk(tree) if isinstance(node, ast.ClassDef)]
    return {node.name for one in classes for node in one.body if isinstance(node, ast.FunctionDef)}


def are_plainly_numbers(node):
    """Whether an expression shows that it is a list of numbers."""
    if not isinstance(node, ast.ListComp) or not isinstance(node.elt, ast.Call):
        return False
    return isinstance(node.elt.func, ast.Name) and node.elt.func.id in ("int", "len")


def is_docstring(statement):
    """Whether a statement is only a string."""
    return isinstance(statement, ast.Expr) and isinstance(statement.value, ast.Constant)


class FilesTest(unittest.TestCase):
    def test_only_python_files_with_plain_names(self):
        self.assertTrue(files())
        for path in files():
            self.assertTrue(path.is_dir() or re.fullmatch(r"[a-z0-9_]+\.py", path.name), path)
            self.assertTrue(path.is_file() or (path / "__init__.py").is_file(), path)

    def test_sizes_and_characters(self):
        for path, tree in modules():
            text = path.read_text(encoding="utf-8")
            lines = text.splitlines()
            self.assertLessEqual(len(lines), 399, path)
            self.assertLessEqual(max(map(len, lines)), 120, path)
            self.assertEqual(re.findall(r"[^\n -~]", text), [], path)
            for node in ast.walk(tree):
                if isinstance(node, ast.FunctionDef):
                    self.assertLessEqual(node.end_lineno - node.lineno + 1, 40, (path, node.name))


class ImportsTest(unittest.TestCase):
    def test_names_are_imported_from_the_file_that_defines_them(self):
        defined = {}
        for path, tree in modules():
            names = {node.name for node in tree.body if isinstance(node, (ast.FunctionDef, ast.ClassDef))}
            names |= {node.targets[0].id for node in tree.body if isinstance(node, ast.Assign)}
            defined[f"leastreasons.{path.stem}"] = names
        for path, tree in modules():
            for node in ast.walk(tree):
                if isinstance(node, ast.ImportFrom) and node.module not in LIBRARY:
                    self.assertEqual(node.level, 0, path)
                    self.assertIn(node.module, defined, path)
                    self.assertLessEqual({name.name for name in node.names}, defined[node.module], path)
                    self.assertEqual([name.asname for name in node.names if name.asname], [], path)

    def test_no_two_files_import_from_each_other(self):
        imported = {}
        for path, tree in modules():
            nodes = [node for node in tree.body if isinstance(node, ast.ImportFrom)]
            imported[f"leastreasons.{path.stem}"] = {node.module for node in nodes} - LIBRARY
        while imported:
            free = [name for name, others in imported.items() if not others & imported.keys()]
            self.assertTrue(free, imported)
            for name in free:
                del imported[name]


class StatementsTest(unittest.TestCase):
    def test_module_level(self):
        for path, tree in modules():
            for at, node in enumerate(tree.body):
                self.assertTrue(isinstance(node, MODULE_LEVEL) or (at == 0 and is_docstring(node)), (path, node.lineno))

    def test_no_names_and_statements_outside_the_subset(self):
        for path, tree in modules():
            for node in ast.walk(tree):
                where = (path, getattr(node, "lineno", None))
                self.assertNotIsInstance(node, NO_STATEMENTS, where)
                name = getattr(node, "id", None) or getattr(node, "name", None) or getattr(node, "arg", None)
                self.assertNotIn(name, NO_NAMES, where)
                if isinstance(node, ast.Constant):
                    self.assertNotIsInstance(node.value, (float, complex), where)

    def test_no_other_builtins_and_methods(self):
        own = own_methods()
        for path, tree in modules():
            decorators = [one for node in ast.walk(tree) for one in getattr(node, "decorator_list", [])]
            self.assertLessEqual({one.id for one in decorators}, DECORATORS, path)
            for node in ast.walk(tree):
                where = (path, getattr(node, "lineno", None))
                if isinstance(node, ast.Name) and hasattr(builtins, node.id) and node not in decorators:
                    self.assertIn(node.id, BUILTINS, where)
                    self.assertIsInstance(node.ctx, ast.Load, where)
                if isinstance(node, ast.arg):
                    self.assertFalse(hasattr(builtins, node.arg), where)
                if isinstance(node, ast.Call) and isinstance(node.func, ast.Attribute):
                    self.assertIn(node.func.attr, METHODS | own, where)

    def test_no_name_of_an_import_is_given_another_meaning(self):
        for path, tree in modules():
            imported = {name.name for node in tree.body if isinstance(node, ast.ImportFrom) for name in node.names}
            used = {node.id for node in ast.walk(tree) if isinstance(node, ast.Name)}
            self.assertLessEqual(imported, used, path)
            for node in ast.walk(tree):
                if isinstance(node, ast.Name) and isinstance(node.ctx, ast.Store):
                    self.assertNotIn(node.id, imported, (path, node.lineno))
                if isinstance(node, ast.arg):
                    self.assertNotIn(node.arg, imported, (path, node.lineno))


class ClassesTest(unittest.TestCase):
    """What holds in a package that has operators, properties and a class that compares."""

    def test_double_underscore_methods(self):
        used = {name for name in own_methods() if name.startswith("__")}
        self.assertLessEqual(used, DOUBLE_UNDERSCORES)
        self.assertIn("__iter__", used)
        self.assertFalse(own_methods() & (METHODS - {"__init__"}))

    def test_only_plain_numbers_are_sorted(self):
        for path, tree in modules():
            for node in ast.walk(tree):
                if isinstance(node, ast.Call) and isinstance(node.func, ast.Name):
                    where = (path, node.lineno)
                    if node.func.id in ("sorted", "min", "max"):
                        keys = [word.value.id for word in node.keywords if word.arg == "key"]
                        self.assertTrue(keys == ["len"] or are_plainly_numbers(node.args[0]), where)
                    if node.func.id == "reversed":
                        self.assertEqual(node.args[0].func.id, "range", where)

    def test_no_statements_that_are_narrower_there(self):
        for path, tree in modules():
            for node in ast.walk(tree):
                where = (path, getattr(node, "lineno", None))
                self.assertNotIsInstance(node, (ast.GeneratorExp, ast.Try, ast.Set, ast.SetComp), where)
                if isinstance(node, ast.AugAssign):
                    self.assertIsInstance(node.op, ast.Add, where)
                    self.assertIsInstance(node.value, ast.Constant, where)
                if isinstance(node, ast.Compare) and any(isinstance(one, (ast.Is, ast.IsNot)) for one in node.ops):
                    self.assertIn([one.value for one in node.comparators], ([None], [True], [False]), where)

    def test_the_end_of_a_block_only_assigns(self):
        rows = [row for _, tree in modules() for node in ast.walk(tree) if isinstance(node, ast.FunctionDef)
                and node.name == "__exit__" for row in node.body]
        self.assertTrue(rows)
        for row in rows:
            self.assertIsInstance(row, ast.Assign)
            self.assertIsInstance(row.value, ast.Attribute)
            self.assertEqual(row.value.value.id, "self")

    def test_names_that_do_not_occur(self):
        for path in files():
            if path.is_file():
                text = path.read_text(encoding="utf-8")
                for word in ("(type)", "Meta", "metaclass=", "_wall", "StopIteration", "NotImplemented"):
                    self.assertNotIn(word, text, path)


if __name__ == "__main__":
    unittest.main()
