"""The form of the package's code: sizes, characters, and what of Python it uses."""

import ast
import pathlib
import unittest

PACKAGE = pathlib.Path(__file__).parent.parent / "kindtells"
BUILTINS = set(dir(__import__("builtins")))
ALLOWED = set("""
    len range enumerate zip min max sum abs sorted reversed int str bool bytes list tuple dict set frozenset isinstance
    ord repr any all divmod pow type Exception ValueError TypeError KeyError IndexError LookupError ZeroDivisionError
    ArithmeticError OverflowError RuntimeError NotImplementedError AttributeError StopIteration NotImplemented
    staticmethod
    """.split())
METHODS = set("""
    __init__ __eq__ __repr__ __str__ __len__ __bool__""".split())
BARRED = (
    ast.AsyncFor, ast.AsyncFunctionDef, ast.AsyncWith, ast.Await, ast.Global, ast.GeneratorExp, ast.Div, ast.Yield,
    ast.YieldFrom, ast.Import, ast.Pow, ast.SetComp)


def files():
    return sorted(PACKAGE.iterdir())


def trees():
    return [(path.name, ast.parse(path.read_text())) for path in files() if path.suffix == ".py"]


def nodes():
    return [(name, node) for name, tree in trees() for node in ast.walk(tree)]


class Form(unittest.TestCase):
    def test_files(self):
        names = [path.name for path in files() if path.name != "__pycache__"]
        self.assertTrue(all(name.endswith(".py") and name == name.lower() for name in names))
        self.assertTrue("__init__.py" in names and len(names) <= 100)

    def test_lines(self):
        for path in files():
            if path.suffix == ".py":
                text = path.read_bytes()
                self.assertTrue(all(32 <= sign < 127 or sign == 10 for sign in text), path)
                lines = text.decode().splitlines()
                self.assertLess(len(lines), 400)
                self.assertLessEqual(max(map(len, lines)), 120)

    def test_functions(self):
        for name, node in nodes():
            if isinstance(node, ast.FunctionDef):
                self.assertLessEqual(node.end_lineno - node.lineno + 1, 40, node.name)
                self.assertTrue(all(ast.unparse(mark) == "staticmethod" for mark in node.decorator_list))
                if node.name.startswith("__"):
                    self.assertIn(node.name, METHODS)
                self.assertNotIn(node.name, BUILTINS)

    def test_what_is_used(self):
        for name, node in nodes():
            self.assertNotIsInstance(node, BARRED, f"{name}:{getattr(node, 'lineno', 0)}")
            if isinstance(node, ast.Name) and node.id in BUILTINS:
                self.assertIn(node.id, ALLOWED)
                self.assertIsInstance(node.ctx, ast.Load)
            if isinstance(node, ast.arg):
                self.assertNotIn(node.arg, BUILTINS)
            if isinstance(node, ast.Constant):
                self.assertNotIsInstance(node.value, (float, complex))

    def test_is_stands_with_none_and_classes_alone(self):
        for name, node in nodes():
            if isinstance(node, ast.Compare) and isinstance(node.ops[0], (ast.Is, ast.IsNot)):
                known = isinstance(node.comparators[0], ast.Constant)
                self.assertTrue(known or ast.unparse(node.left).startswith("type("), ast.unparse(node))

    def test_imports(self):
        for name, tree in trees():
            defined = {path.stem: path for path in files()}
            for node in ast.walk(tree):
                if isinstance(node, ast.ImportFrom):
                    package, _, stem = node.module.partition(".")
                    self.assertEqual([package, node.level], ["kindtells", 0])
                    here = ast.parse(defined[stem].read_text()).body
                    own = {part.name for part in here if isinstance(part, (ast.FunctionDef, ast.ClassDef))}
                    own |= {target.id for part in here if isinstance(part, ast.Assign) for target in part.targets}
                    self.assertTrue(own >= {alias.name for alias in node.names})

    def test_module_level(self):
        for name, tree in trees():
            for at, node in enumerate(tree.body):
                plain = isinstance(node, (ast.ImportFrom, ast.FunctionDef, ast.ClassDef, ast.Assign))
                self.assertTrue(plain or (at == 0 and ast.get_docstring(tree)), ast.unparse(node))


if __name__ == "__main__":
    unittest.main()
