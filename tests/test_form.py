"""The form of the package's code: sizes, characters, and what of Python it uses."""

import ast
import pathlib
import unittest

PACKAGE = pathlib.Path(__file__).parent.parent / "kindtells"
BUILTINS = set(dir(__import__("builtins")))
ALLOWED = set("""
    len range enumerate zip min max sum abs sorted reversed int str bool bytes list tuple dict set frozenset isinstance
    ord repr any all divmod pow type Exception ValueError TypeError KeyError IndexError LookupError ZeroDivisionError
    ArithmeticError OverflowError RuntimeError NotImplementedError AttributeError StopIteration NotImplemented
    staticmethod
    """.split())
METHODS = set("""
    __init__ __eq__ __repr__ __str__ __len__ __bool__""".split())
BARRED = (
    ast.AsyncFor, ast.AsyncFunctionDef, ast.AsyncWith, ast.Await, ast.Global, ast.GeneratorExp, ast.Div, ast.Yield,
    ast.YieldFrom, ast.Import, ast.Pow)
LIBRARY = {"itertools": {"combinations", "permutations"}}
# Methods of strings, lists and dicts that the subset has.
OF_VALUES = set("""
    append clear copy count endswith extend find get index insert isalnum isalpha isdigit islower isspace isupper items
    join keys ljust lower lstrip partition pop remove replace reverse rfind rjust rpartition rsplit rstrip setdefault
    split splitlines startswith strip update upper values zfill bit_length add discard""".split())
# What goes over things one by one on the spot, and what must be gone over so.
ITERATING = {"list", "tuple", "dict", "sorted", "sum", "any", "all", "enumerate", "zip", "min", "max", "combinations", "permutations"}
ITERATED = {"zip", "enumerate", "reversed", "range", "combinations", "permutations"}


def files():
    return sorted(PACKAGE.iterdir())


def trees():
    return [(path.name, ast.parse(path.read_text())) for path in files() if path.suffix == ".py"]


def nodes():
    return [(name, node) for name, tree in trees() for node in ast.walk(tree)]


class Form(unittest.TestCase):
    def test_files(self):
        names = [path.name for path in files() if path.name != "__pycache__"]
        self.assertTrue(all(name.endswith(".py") and name == name.lower() for name in names))
        self.assertTrue("__init__.py" in names and len(names) <= 100)

    def test_lines(self):
        for path in files():
            if path.suffix == ".py":
                text = path.read_bytes()
                self.assertTrue(all(32 <= sign < 127 or sign == 10 for sign in text), path)
                lines = text.decode().splitlines()
                self.assertLess(len(lines), 400)
                self.assertLessEqual(max(map(len, lines)), 120)

    def test_functions(self):
        for name, node in nodes():
            if isinstance(node, ast.FunctionDef):
                self.assertLessEqual(node.end_lineno - node.lineno + 1, 40, node.name)
                self.assertTrue(all(ast.unparse(mark) == "staticmethod" for mark in node.decorator_list))
                if node.name.startswith("__"):
                    self.assertIn(node.name, METHODS)
                self.assertNotIn(node.name, BUILTINS)

    def test_what_is_used(self):
        for name, node in nodes():
            self.assertNotIsInstance(node, BARRED, f"{name}:{getattr(node, 'lineno', 0)}")
            if isinstance(node, ast.Name) and node.id in BUILTINS:
                self.assertIn(node.id, ALLOWED)
                self.assertIsInstance(node.ctx, ast.Load)
            if isinstance(node, ast.arg):
                self.assertNotIn(node.arg, BUILTINS)
            if isinstance(node, ast.Constant):
                self.assertNotIsInstance(node.value, (float, complex))

    def test_is_stands_with_none_and_classes_alone(self):
        for name, node in nodes():
            if isinstance(node, ast.Compare) and isinstance(node.ops[0], (ast.Is, ast.IsNot)):
                known = isinstance(node.comparators[0], ast.Constant)
                self.assertTrue(known or ast.unparse(node.left).startswith("type("), ast.unparse(node))

    def test_imports(self):
        for name, tree in trees():
            defined = {path.stem: path for path in files()}
            for node in ast.walk(tree):
                if isinstance(node, ast.ImportFrom) and node.module in LIBRARY:
                    self.assertTrue({alias.name for alias in node.names} <= LIBRARY[node.module])
                elif isinstance(node, ast.ImportFrom):
                    package, _, stem = node.module.partition(".")
                    self.assertEqual([package, node.level], ["kindtells", 0])
                    here = ast.parse(defined[stem].read_text()).body
                    own = {part.name for part in here if isinstance(part, (ast.FunctionDef, ast.ClassDef))}
                    own |= {target.id for part in here if isinstance(part, ast.Assign) for target in part.targets}
                    self.assertTrue(own >= {alias.name for alias in node.names})

    def test_no_two_files_import_from_each_other(self):
        needs = {}
        for name, tree in trees():
            modules = [node.module for node in tree.body if isinstance(node, ast.ImportFrom)]
            needs[name[:-3]] = {module[len("kindtells."):] for module in modules if module not in LIBRARY}
        while needs:
            free = {name for name, others in needs.items() if not others & set(needs)}
            self.assertTrue(free, needs)
            needs = {name: others for name, others in needs.items() if name not in free}

    def test_each_import_is_used_and_no_other_name_is_like_it(self):
        for name, tree in trees():
            imported = {alias.name for node in tree.body if isinstance(node, ast.ImportFrom) for alias in node.names}
            classes = {node.name for node in tree.body if isinstance(node, ast.ClassDef)}
            read, bound = set(), set()
            for node in ast.walk(tree):
                if isinstance(node, ast.Name):
                    (read if isinstance(node.ctx, ast.Load) else bound).add(node.id)
                if isinstance(node, ast.arg):
                    bound.add(node.arg)
            self.assertEqual(imported - read, set(), name)
            self.assertEqual((imported | classes) & bound, set(), name)

    def test_attributes_and_methods(self):
        methods = {node.name for _, node in nodes() if isinstance(node, ast.FunctionDef)}
        assigned = {
            node.attr for _, node in nodes() if isinstance(node, ast.Attribute) and isinstance(node.ctx, ast.Store)}
        for name, node in nodes():
            if isinstance(node, ast.Call) and isinstance(node.func, ast.Attribute):
                self.assertIn(node.func.attr, OF_VALUES | methods, name)
                if node.func.attr in OF_VALUES:
                    self.assertEqual(node.keywords, [])
            elif isinstance(node, ast.Attribute) and isinstance(node.ctx, ast.Load):
                self.assertIn(node.attr, assigned | methods | OF_VALUES, name)

    def test_sets_and_iterators_stand_where_they_are_used_up(self):
        for name, tree in trees():
            above = {child: node for node in ast.walk(tree) for child in ast.iter_child_nodes(node)}
            for node in ast.walk(tree):
                called = node.func.id if isinstance(node, ast.Call) and isinstance(node.func, ast.Name) else ""
                outer = above.get(node)
                by = outer.func.id if isinstance(outer, ast.Call) and isinstance(outer.func, ast.Name) else ""
                if isinstance(node, (ast.SetComp, ast.Set)) or called == "set":
                    stored = isinstance(outer, ast.Assign) and len(outer.targets) == 1
                    self.assertTrue(by in ("sorted", "len") or stored, f"{name}:{node.lineno}")
                if called in ITERATED:
                    looped = isinstance(outer, (ast.For, ast.comprehension)) and outer.iter is node
                    looped = looped or (called == "range" and isinstance(outer, ast.Assign))
                    self.assertTrue(looped or (by in ITERATING and outer.args[0] is node), f"{name}:{node.lineno}")

    def test_builtins_take_few_keywords(self):
        may = {"sorted": {"key", "reverse"}, "min": {"key", "default"}, "max": {"key", "default"}}
        for name, node in nodes():
            if isinstance(node, ast.Call) and isinstance(node.func, ast.Name) and node.func.id in ALLOWED:
                self.assertTrue({word.arg for word in node.keywords} <= may.get(node.func.id, set()), name)

    def test_module_level(self):
        for name, tree in trees():
            for at, node in enumerate(tree.body):
                plain = isinstance(node, (ast.ImportFrom, ast.FunctionDef, ast.ClassDef, ast.Assign))
                self.assertTrue(plain or (at == 0 and ast.get_docstring(tree)), ast.unparse(node))
                if isinstance(node, ast.Assign):
                    ast.literal_eval(node.value)


if __name__ == "__main__":
    unittest.main()
