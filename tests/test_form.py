"""Rules of ../shared/LANGUAGE.md that a program can see at once, for every file of the package."""

import ast
import builtins
import pathlib
import unittest

PACKAGE = pathlib.Path(__file__).resolve().parent.parent / "rotatesafe"
FILES = sorted(path for path in PACKAGE.rglob("*") if "__pycache__" not in path.parts)
BUILTINS = set("""len range enumerate zip min max sum abs sorted reversed int str bool bytes list tuple dict set
    frozenset isinstance ord repr any all divmod iter next map super property classmethod staticmethod
    Exception ValueError TypeError KeyError IndexError LookupError ZeroDivisionError ArithmeticError OverflowError
    RuntimeError NotImplementedError AttributeError StopIteration NotImplemented""".split())
DUNDERS = {"__init__", "__eq__"}


def trees():
    return [(path, ast.parse(path.read_text(encoding="utf-8"))) for path in FILES]


def nodes(kinds):
    return [(path.name, node) for path, tree in trees() for node in ast.walk(tree) if isinstance(node, kinds)]


class Form(unittest.TestCase):
    def test_only_plain_files(self):
        self.assertTrue(FILES)
        for path in FILES:
            self.assertRegex(path.name, r"\A[a-z_]+\.py\Z")

    def test_sizes_and_characters(self):
        for path in FILES:
            rows = path.read_text(encoding="utf-8").split("\n")
            self.assertLess(len(rows), 400, path)
            for row in rows:
                self.assertLessEqual(len(row), 120, row)
                self.assertRegex(row, r"\A[ -~]*\Z")
        for name, node in nodes(ast.FunctionDef):
            self.assertLessEqual(node.end_lineno - node.lineno + 1, 40, (name, node.name))

    def test_imports(self):
        self.assertEqual(nodes(ast.Import), [])
        above = {}
        for path, tree in trees():
            for node in ast.walk(tree):
                if isinstance(node, ast.ImportFrom):
                    self.assertRegex(node.module, r"\Arotatesafe\.[a-z]+\Z")
                    self.assertIn(node, tree.body)
                    self.assertTrue(all(item.name != "*" for item in node.names))
                    above.setdefault(path.stem, []).append(node.module.split(".")[1])
        while above:
            free = [name for name, others in above.items() if not any(other in above for other in others)]
            self.assertTrue(free, above)
            for name in free:
                del above[name]

    def test_kinds_of_statements_and_expressions(self):
        barred = (ast.Global, ast.AsyncFunctionDef, ast.Await, ast.GeneratorExp, ast.Div, ast.YieldFrom)
        self.assertEqual(nodes(barred), [])
        for name, node in nodes(ast.Constant):
            self.assertNotIsInstance(node.value, (float, complex), name)
            self.assertNotIn("%", node.value if isinstance(node.value, str) else "", name)

    def test_names(self):
        barred = set(dir(builtins)) - BUILTINS
        for name, node in nodes(ast.Name):
            self.assertNotIn(node.id, barred, name)
            self.assertFalse(isinstance(node.ctx, ast.Store) and node.id in dir(builtins), (name, node.id))
        for name, node in nodes(ast.FunctionDef):
            self.assertTrue(not node.name.startswith("__") or node.name in DUNDERS, (name, node.name))
            for argument in node.args.args:
                self.assertNotIn(argument.arg, dir(builtins), name)

    def test_module_level(self):
        allowed = (ast.ImportFrom, ast.FunctionDef, ast.ClassDef, ast.Assign)
        for path, tree in trees():
            for place, node in enumerate(tree.body):
                docstring = place == 0 and isinstance(node, ast.Expr) and isinstance(node.value, ast.Constant)
                self.assertTrue(docstring or isinstance(node, allowed), (path, node.lineno))


if __name__ == "__main__":
    unittest.main()
