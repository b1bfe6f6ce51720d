"""The rules of the language that can be seen without running the package."""

import ast
import unittest
import warnings
from pathlib import Path

FOLDER = Path(__file__).resolve().parent.parent / "backrule"
BUILTINS = {
    "len", "range", "enumerate", "zip", "min", "max", "sum", "abs", "sorted", "reversed", "int", "str", "bool",
    "list", "tuple", "dict", "set", "isinstance", "ord", "repr", "any", "all", "divmod", "type", "ValueError",
}


def files():
    return sorted(path for path in FOLDER.rglob("*") if path.is_file() and path.suffix != ".pyc")


def trees():
    return [(path, ast.parse(path.read_text(encoding="ascii"))) for path in files()]


def functions_of(tree):
    return [node for node in ast.walk(tree) if isinstance(node, ast.FunctionDef)]


class TestLanguage(unittest.TestCase):
    def test_files(self):
        self.assertIn(FOLDER / "__init__.py", files())
        for path in files():
            self.assertRegex(path.name, "^[a-z_0-9]+[.]py$")

    def test_characters_and_sizes(self):
        for path in files():
            text = path.read_text(encoding="ascii")
            lines = text.split("\n")
            self.assertLessEqual(len(lines), 399)
            for line in lines:
                self.assertRegex(line, "^[ -~]{0,120}$")

    def test_functions_are_small(self):
        for path, tree in trees():
            for function in functions_of(tree):
                self.assertLessEqual(function.end_lineno - function.lineno + 1, 40, (path.name, function.name))
                self.assertEqual(function.decorator_list, [])

    def test_imports(self):
        for path, tree in trees():
            for node in ast.walk(tree):
                self.assertNotIsInstance(node, ast.Import, path.name)
                if isinstance(node, ast.ImportFrom):
                    self.assertEqual((node.level, node.module.split(".")[0]), (0, "backrule"))
                    self.assertEqual([name.asname for name in node.names], [None] * len(node.names))
                    self.check_defined(node)

    def check_defined(self, node):
        tree = ast.parse((FOLDER / (node.module.split(".")[1] + ".py")).read_text(encoding="ascii"))
        defined = [part.name for part in tree.body if isinstance(part, (ast.FunctionDef, ast.ClassDef))]
        defined.extend([part.targets[0].id for part in tree.body if isinstance(part, ast.Assign)])
        for name in node.names:
            self.assertIn(name.name, defined)

    def test_module_level(self):
        allowed = (ast.ImportFrom, ast.FunctionDef, ast.ClassDef, ast.Assign, ast.Expr)
        for path, tree in trees():
            for part in tree.body:
                self.assertIsInstance(part, allowed, path.name)
                if isinstance(part, ast.Expr):
                    self.assertIsInstance(part.value.value, str)

    def test_builtins(self):
        import builtins
        for path, tree in trees():
            for node in ast.walk(tree):
                if isinstance(node, ast.Name) and hasattr(builtins, node.id):
                    self.assertIn(node.id, BUILTINS, path.name)
                    self.assertIsInstance(node.ctx, ast.Load, path.name)

    def test_kinds_of_code_that_the_language_does_not_have(self):
        barred = (
            ast.GeneratorExp, ast.Yield, ast.YieldFrom, ast.Global, ast.AnnAssign, ast.Div, ast.Starred, ast.Set,
            ast.Pow, ast.AsyncFunctionDef, ast.Await, ast.Try, ast.TryStar, ast.With, ast.Nonlocal,
        )
        for path, tree in trees():
            for node in ast.walk(tree):
                self.assertNotIsInstance(node, barred, path.name)
                if isinstance(node, ast.Constant):
                    self.assertIn(type(node.value), (int, str, bool, type(None)), path.name)
                if isinstance(node, ast.Constant) and isinstance(node.value, str):
                    self.assertNotIn("%", node.value, path.name)
                if isinstance(node, ast.Compare) and isinstance(node.ops[0], (ast.Is, ast.IsNot)):
                    self.check_is(node)

    def check_is(self, node):
        self.assertEqual(len(node.ops), 1)
        left, right = node.left, node.comparators[0]
        asks_kind = isinstance(left, ast.Call) and left.func.id == "type" and isinstance(right, ast.Name)
        self.assertTrue(asks_kind or isinstance(right, ast.Constant) and right.value is None, ast.dump(node))

    def test_sets_stand_in_sorted_alone(self):
        for path, tree in trees():
            inside = [node.args[0] for node in ast.walk(tree) if isinstance(node, ast.Call)
                      and isinstance(node.func, ast.Name) and node.func.id == "sorted" and not node.keywords]
            for node in ast.walk(tree):
                if isinstance(node, ast.SetComp):
                    self.assertIn(node, inside, path.name)

    def test_names(self):
        barred = {
            "register", "mro", "elements", "open", "input", "law", "compile", "copyright", "dir", "eval", "exec",
            "exit", "gc", "globals", "help", "id", "license", "locals", "os", "quit", "super", "sys", "vars",
        }
        for path, tree in trees():
            imported = {name.name for node in ast.walk(tree) if isinstance(node, ast.ImportFrom) for name in node.names}
            for node in ast.walk(tree):
                if isinstance(node, ast.Name):
                    self.assertRegex(node.id, "^_?([A-Za-z][A-Za-z0-9_]*)?$", path.name)
                    self.assertNotIn(node.id, barred, path.name)
                if isinstance(node, ast.Name) and isinstance(node.ctx, ast.Store):
                    self.assertNotIn(node.id, imported, path.name)
                if isinstance(node, ast.Name) and isinstance(node.ctx, ast.Load):
                    self.assertNotEqual(node.id, "_", path.name)

    def test_no_two_files_import_from_each_other(self):
        needs = {}
        for path, tree in trees():
            needs[path.stem] = {part.module.split(".")[1] for part in tree.body if isinstance(part, ast.ImportFrom)}
        while needs:
            free = [name for name in needs if not needs[name] & set(needs)]
            self.assertTrue(free, needs)
            for name in free:
                del needs[name]

    def test_no_warnings(self):
        with warnings.catch_warnings():
            warnings.simplefilter("error")
            for path in files():
                compile(path.read_text(encoding="ascii"), path.name, "exec")


if __name__ == "__main__":
    unittest.main()
