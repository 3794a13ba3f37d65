"""Checks of the package's files that follow from the rules of its language."""

import ast
import builtins
import unittest
import warnings
from pathlib import Path

PACKAGE = Path(__file__).resolve().parent.parent / "gatepairs"
FILES = sorted(path for path in PACKAGE.rglob("*") if "__pycache__" not in path.parts)
TEXTS = {path.name: path.read_text(encoding="utf-8") for path in FILES if path.is_file()}
TREES = {name: ast.parse(text) for name, text in TEXTS.items()}

USED_BUILTINS = {
    *("len", "range", "enumerate", "zip", "min", "max", "sum", "abs", "sorted", "reversed", "int", "str", "bool"),
    *("list", "tuple", "dict", "set", "isinstance", "ord", "repr", "any", "all", "divmod", "super", "map"),
    *("ValueError", "TypeError", "KeyError", "IndexError", "LookupError"),
}
METHODS = {
    *("append", "clear", "copy", "count", "endswith", "extend", "find", "get", "index", "insert", "isalnum", "isalpha"),
    *("isdigit", "islower", "isspace", "isupper", "items", "join", "keys", "ljust", "lower", "lstrip", "partition"),
    *("pop", "remove", "replace", "reverse", "rfind", "rjust", "rpartition", "rsplit", "rstrip", "setdefault", "sort"),
    *("split", "splitlines", "startswith", "strip", "update", "upper", "values", "zfill", "bit_length", "add"),
    *("discard", "isascii", "isdecimal", "removeprefix", "removesuffix", "__init__"),
}
BARRED_NODES = (ast.Global, ast.AsyncFunctionDef, ast.AsyncFor, ast.AsyncWith, ast.Await, ast.Div, ast.Import)
BARRED_NAMES = {"mro", "elements", "law", "register", "builtins", "gc", "importlib", "os", "sys"}
LEVEL = (ast.ImportFrom, ast.FunctionDef, ast.ClassDef, ast.Assign)


def all_nodes(kind):
    """The nodes of this kind in all files."""
    return [node for tree in TREES.values() for node in ast.walk(tree) if isinstance(node, kind)]


def is_stored(node):
    return isinstance(node.ctx, ast.Store)


def is_call(node, functions):
    return isinstance(node, ast.Call) and isinstance(node.func, ast.Name) and node.func.id in functions


def is_set(node):
    return isinstance(node, (ast.Set, ast.SetComp)) or is_call(node, ("set",))


def defined_names(tree):
    """The names that the file itself binds at module level, without its imports."""
    names = {part.name for part in tree.body if isinstance(part, (ast.FunctionDef, ast.ClassDef))}
    return names | {part.targets[0].id for part in tree.body if isinstance(part, ast.Assign)}


class LanguageTest(unittest.TestCase):
    def test_files(self):
        self.assertIn("__init__.py", TEXTS)
        for path in FILES:
            self.assertTrue(path.is_file(), path)
            self.assertRegex(path.name, "^(__init__|[a-z][a-z0-9_]*)[.]py$")

    def test_characters_and_sizes(self):
        for name, text in TEXTS.items():
            rows = text.split("\n")
            self.assertTrue(all(sign == "\n" or " " <= sign <= "~" for sign in text), name)
            self.assertLessEqual(len(rows), 400, name)
            self.assertEqual([number for number, row in enumerate(rows, 1) if len(row) > 120], [], name)

    def test_python_gives_no_warning(self):
        with warnings.catch_warnings():
            warnings.simplefilter("error")
            for name, text in TEXTS.items():
                compile(text, name, "exec")

    def test_functions_are_short_and_plain(self):
        for node in all_nodes(ast.FunctionDef):
            self.assertLessEqual(node.end_lineno - node.lineno + 1, 40, node.name)
            self.assertEqual(node.decorator_list, [], node.name)

    def test_imports(self):
        for node in all_nodes(ast.ImportFrom):
            self.assertRegex(node.module, "^gatepairs[.][a-z]+$")
            defined = defined_names(TREES[node.module.split(".")[1] + ".py"])
            for part in node.names:
                self.assertIsNone(part.asname)
                self.assertIn(part.name, defined)

    def test_module_level(self):
        for name, tree in TREES.items():
            for node in tree.body:
                docstring = isinstance(node, ast.Expr) and isinstance(node.value, ast.Constant)
                self.assertTrue(docstring or isinstance(node, LEVEL), (name, node.lineno))

    def test_names(self):
        for name, tree in TREES.items():
            nodes = list(ast.walk(tree))
            variables = {node.id for node in nodes if isinstance(node, ast.Name) and isinstance(node.ctx, ast.Store)}
            variables |= {node.arg for node in nodes if isinstance(node, ast.arg)}
            defined = {node.name for node in nodes if isinstance(node, (ast.FunctionDef, ast.ClassDef))} - {"__init__"}
            defined |= {part.name for node in nodes if isinstance(node, ast.ImportFrom) for part in node.names}
            read = {node.id for node in nodes if isinstance(node, ast.Name) and isinstance(node.ctx, ast.Load)}
            self.assertEqual(variables & defined, set(), name)
            self.assertEqual((variables | defined) & (set(dir(builtins)) | BARRED_NAMES), set(), name)
            self.assertEqual(read - variables - defined - USED_BUILTINS, set(), name)

    def test_statements_and_values(self):
        self.assertEqual(all_nodes(BARRED_NODES), [])
        for node in all_nodes(ast.Constant):
            self.assertNotIsInstance(node.value, (float, complex))
            self.assertNotIn("%", str(node.value))
        own = {part.name for node in all_nodes(ast.ClassDef) for part in node.body if isinstance(part, ast.FunctionDef)}
        for node in all_nodes(ast.Call):
            if isinstance(node.func, ast.Attribute):
                self.assertIn(node.func.attr, METHODS | own)

    def test_methods_and_attributes(self):
        for node in all_nodes(ast.ClassDef):
            methods = [part.name for part in node.body if isinstance(part, ast.FunctionDef)]
            self.assertEqual(len(set(methods)), len(methods), node.name)
            stored = {part.attr for part in ast.walk(node) if isinstance(part, ast.Attribute) and is_stored(part)}
            self.assertEqual(stored & set(methods), set(), node.name)
            self.assertEqual((stored | set(methods)) & (METHODS - {"__init__"}), set(), node.name)

    def test_stars_and_is(self):
        for node in all_nodes(ast.Call):
            for part in node.args:
                self.assertNotIsInstance(part, ast.Starred, ast.unparse(node))
        for node in all_nodes(ast.Compare):
            for sign, part in zip(node.ops, node.comparators):
                if isinstance(sign, (ast.Is, ast.IsNot)):
                    self.assertIsInstance(part, ast.Constant, ast.unparse(node))

    def test_sets_are_not_kept(self):
        # A set stands in len, beside an operator between sets, or beside a comparison.
        for tree in TREES.values():
            for node in ast.walk(tree):
                for part in ast.iter_child_nodes(node):
                    if is_set(part):
                        plain = isinstance(node, (ast.BinOp, ast.Compare)) or is_call(node, ("len", "sorted"))
                        self.assertTrue(plain, ast.unparse(node))

    def test_imports_go_one_way(self):
        above = {}
        for name, tree in TREES.items():
            imports = [node for node in ast.walk(tree) if isinstance(node, ast.ImportFrom)]
            above[name] = {node.module.split(".")[1] + ".py" for node in imports}
        while above:
            ends = [name for name in above if not above[name] & set(above)]
            self.assertNotEqual(ends, [])
            above = {name: above[name] for name in above if name not in ends}


if __name__ == "__main__":
    unittest.main()
