"""The rules of the language that can be seen without running the package."""

import ast
import unittest
import warnings
from pathlib import Path

FOLDER = Path(__file__).resolve().parent.parent / "backrule"
BUILTINS = {
    "len", "range", "enumerate", "zip", "min", "max", "sum", "abs", "sorted", "reversed", "int", "str", "bool",
    "list", "tuple", "dict", "set", "isinstance", "ord", "repr", "any", "all", "divmod", "type", "ValueError",
}


def files():
    return sorted(path for path in FOLDER.rglob("*") if path.is_file() and path.suffix != ".pyc")


def trees():
    return [(path, ast.parse(path.read_text(encoding="ascii"))) for path in files()]


def functions_of(tree):
    return [node for node in ast.walk(tree) if isinstance(node, ast.FunctionDef)]


class TestLanguage(unittest.TestCase):
    def test_files(self):
        self.assertIn(FOLDER / "__init__.py", files())
        for path in files():
            self.assertRegex(path.name, "^[a-z_0-9]+[.]py$")

    def test_characters_and_sizes(self):
        for path in files():
            text = path.read_text(encoding="ascii")
            lines = text.split("\n")
            self.assertLessEqual(len(lines), 399)
            for line in lines:
                self.assertRegex(line, "^[ -~]{0,120}$")

    def test_functions_are_small(self):
        for path, tree in trees():
            for function in functions_of(tree):
                self.assertLessEqual(function.end_lineno - function.lineno + 1, 40, (path.name, function.name))
                self.assertEqual(function.decorator_list, [])

    def test_imports(self):
        for path, tree in trees():
            for node in ast.walk(tree):
                self.assertNotIsInstance(node, ast.Import, path.name)
                if isinstance(node, ast.ImportFrom):
                    self.assertEqual((node.level, node.module.split(".")[0]), (0, "backrule"))
                    self.assertEqual([name.asname for name in node.names], [None] * len(node.names))
                    self.check_defined(node)

    def check_defined(self, node):
        tree = ast.parse((FOLDER / (node.module.split(".")[1] + ".py")).read_text(encoding="ascii"))
        defined = [part.name for part in tree.body if isinstance(part, (ast.FunctionDef, ast.ClassDef))]
        defined.extend([part.targets[0].id for part in tree.body if isinstance(part, ast.Assign)])
        for name in node.names:
            self.assertIn(name.name, defined)

    def test_module_level(self):
        allowed = (ast.ImportFrom, ast.FunctionDef, ast.ClassDef, ast.Assign, ast.Expr)
        for path, tree in trees():
            for part in tree.body:
                self.assertIsInstance(part, allowed, path.name)
                if isinstance(part, ast.Expr):
                    self.assertIsInstance(part.value.value, str)

    def test_builtins(self):
        import builtins
        for path, tree in trees():
            for node in ast.walk(tree):
                if isinstance(node, ast.Name) and hasattr(builtins, node.id):
                    self.assertIn(node.id, BUILTINS, path.name)
                    self.assertIsInstance(node.ctx, ast.Load, path.name)

    def test_no_warnings(self):
        with warnings.catch_warnings():
            warnings.simplefilter("error")
            for path in files():
                compile(path.read_text(encoding="ascii"), path.name, "exec")


if __name__ == "__main__":
    unittest.main()
