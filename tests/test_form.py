"""Tests of the form of the package's files: point 0, and the rules of the language that a short check can see."""

import ast
import unittest
from pathlib import Path

PACKAGE = Path(__file__).resolve().parent.parent / "wrapcount"
FILES = [path for path in sorted(PACKAGE.rglob("*")) if "__pycache__" not in path.parts]
BUILTINS = """len range enumerate zip min max sum abs sorted reversed int str bool bytes list tuple dict set isinstance
ord repr any all divmod super ValueError property staticmethod classmethod NotImplemented KeyError StopIteration
getattr hasattr setattr iter next map type TypeError True False None""".split()
# Words that may stand nowhere in a file, except in comments and docstrings.
BARRED = ["typing", "enum", "dataclass", "overload", "contextmanager", "namedtuple", "mro", "register", "elements"]
DOUBLE = ["__init__", "__eq__", "__len__", "__repr__", "__str__"]
FUNCTIONS = (ast.FunctionDef, ast.Lambda)


def trees():
    return [(path, ast.parse(path.read_text(encoding="ascii"))) for path in FILES if path.suffix == ".py"]


def nodes(tree, *kinds):
    return [node for node in ast.walk(tree) if isinstance(node, kinds)]


def docstrings(tree):
    bodies = [node.body for node in nodes(tree, ast.Module, ast.ClassDef, ast.FunctionDef)]
    return [body[0].value for body in bodies if body and isinstance(body[0], ast.Expr)]


def bound_names(tree):
    """Returns all names that the file gives to something."""
    names = [node.name for node in nodes(tree, ast.FunctionDef, ast.ClassDef)]
    names += [node.arg for node in nodes(tree, ast.arg)]
    names += [node.id for node in nodes(tree, ast.Name) if isinstance(node.ctx, ast.Store)]
    names += [alias.asname or alias.name for node in nodes(tree, ast.ImportFrom) for alias in node.names]
    return names


class Files(unittest.TestCase):
    def test_folder_contains_only_python_files(self):
        self.assertIn(PACKAGE / "__init__.py", FILES)
        for path in FILES:
            self.assertTrue(path.is_dir() or path.suffix == ".py", path)
            self.assertEqual(path.name, path.name.lower())

    def test_characters_and_sizes(self):
        for path, _ in trees():
            text = path.read_text(encoding="ascii")
            self.assertTrue(all(char == "\n" or " " <= char <= "~" for char in text), path)
            lines = text.split("\n")
            self.assertLessEqual(len(lines), 399, path)
            self.assertLessEqual(max(map(len, lines)), 120, path)

    def test_functions_have_at_most_40_lines(self):
        for path, tree in trees():
            for node in nodes(tree, ast.FunctionDef):
                self.assertLessEqual(node.end_lineno - node.lineno + 1, 40, (path, node.name))

    def test_module_level_holds_only_definitions(self):
        for path, tree in trees():
            for at, node in enumerate(tree.body):
                first = at == 0 and isinstance(node, ast.Expr) and isinstance(node.value, ast.Constant)
                kinds = (ast.ImportFrom, ast.FunctionDef, ast.ClassDef, ast.Assign)
                self.assertTrue(first or isinstance(node, kinds), (path, node.lineno))


class Rules(unittest.TestCase):
    def test_imports(self):
        for path, tree in trees():
            self.assertEqual(nodes(tree, ast.Import), [], path)
            for node in nodes(tree, ast.ImportFrom):
                self.assertTrue(node.module.startswith("wrapcount.") and node.level == 0, (path, node.lineno))
                source = ast.parse((PACKAGE / (node.module.split(".")[1] + ".py")).read_text(encoding="ascii"))
                defined = [one.name for one in source.body if isinstance(one, (ast.FunctionDef, ast.ClassDef))]
                defined += [one.targets[0].id for one in source.body if isinstance(one, ast.Assign)]
                for alias in node.names:
                    self.assertIn(alias.name, defined, (path, node.lineno))

    def test_no_other_syntax(self):
        barred = (ast.AsyncFunctionDef, ast.Await, ast.Global, ast.GeneratorExp, ast.Div, ast.Import, ast.Yield,
                  ast.YieldFrom, ast.With, ast.AnnAssign)
        for path, tree in trees():
            self.assertEqual(nodes(tree, *barred), [], path)
            for node in nodes(tree, ast.Constant):
                self.assertNotIsInstance(node.value, (float, complex), (path, node.lineno))
            for node in nodes(tree, ast.FunctionDef, ast.ClassDef):
                self.assertEqual(node.decorator_list, [], (path, node.name))

    def test_no_barred_words_and_no_percent_sign_in_strings(self):
        for path, tree in trees():
            told = docstrings(tree)
            for node in nodes(tree, ast.Constant):
                if isinstance(node.value, str) and node not in told:
                    self.assertNotIn("%", node.value, (path, node.lineno))
                    self.assertFalse([word for word in BARRED if word in node.value], (path, node.lineno))
            for name in bound_names(tree):
                self.assertNotIn(name, BARRED + ["open", "input", "law"], path)

    def test_names_are_plain_and_no_builtin_gets_another_meaning(self):
        builtin = dir(__import__("builtins"))
        for path, tree in trees():
            for name in bound_names(tree):
                self.assertNotIn(name, builtin, path)
                self.assertTrue(name in DOUBLE + ["_"] or not name.startswith("_"), (path, name))

    def test_no_method_or_attribute_has_the_name_of_one_of_a_builtin_value(self):
        taken = {name for kind in (str, bytes, int, list, tuple, dict, set) for name in dir(kind)} - {"add", "copy"}
        for path, tree in trees():
            for node in nodes(tree, ast.ClassDef):
                names = [one.name for one in node.body if isinstance(one, ast.FunctionDef)]
                names += [one.attr for one in nodes(node, ast.Attribute) if isinstance(one.ctx, ast.Store)]
                for name in names:
                    self.assertTrue(name in DOUBLE or name in ("count", "index", "clear") or name not in taken,
                                    (path, node.name, name))

    def test_only_listed_builtins_are_used(self):
        builtin = dir(__import__("builtins"))
        for path, tree in trees():
            for node in nodes(tree, ast.Name):
                if node.id in builtin:
                    self.assertIn(node.id, BUILTINS, (path, node.lineno))

    def test_no_local_name_is_the_name_of_an_import(self):
        for path, tree in trees():
            imported = [alias.name for node in nodes(tree, ast.ImportFrom) for alias in node.names]
            for function in nodes(tree, *FUNCTIONS):
                for name in bound_names(function):
                    self.assertNotIn(name, imported, (path, function.lineno))

    def test_only_own_errors_are_caught(self):
        for path, tree in trees():
            imported = [alias.name for node in nodes(tree, ast.ImportFrom) if node.module == "wrapcount.errors"
                        for alias in node.names]
            for node in nodes(tree, ast.ExceptHandler):
                caught = node.type.elts if isinstance(node.type, ast.Tuple) else [node.type]
                for kind in caught:
                    self.assertIn(kind.id, imported, (path, node.lineno))

    def test_no_sets_and_nothing_that_own_methods_forbid(self):
        # A class of the package has __eq__, __len__ and add: then there is no .sort(), and no .add() of a set.
        for path, tree in trees():
            self.assertEqual(nodes(tree, ast.Set, ast.SetComp), [], path)
            for node in nodes(tree, ast.Call):
                self.assertNotIn(getattr(node.func, "id", None), ("set", "frozenset"), (path, node.lineno))
                self.assertNotEqual(getattr(node.func, "attr", None), "sort", (path, node.lineno))

    def test_is_stands_only_with_none_true_and_false(self):
        for path, tree in trees():
            for node in nodes(tree, ast.Compare):
                if any(isinstance(sign, (ast.Is, ast.IsNot)) for sign in node.ops):
                    self.assertIsInstance(node.comparators[-1], ast.Constant, (path, node.lineno))


if __name__ == "__main__":
    unittest.main()
