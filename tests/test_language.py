"""What of the rules of the language can be read off the files: L1, L2, L4, L7, L8, L10, L12, L14, L16."""

import ast
import builtins
import unittest
from pathlib import Path

PACKAGE = Path(__file__).resolve().parent.parent / "elderinn"
LIBRARY = {"heapq", "math", "itertools", "collections"}
BUILTINS = set("""len range enumerate zip min max sum abs sorted reversed int str bool bytes list tuple dict set
    isinstance ord repr any all divmod pow map iter next ValueError TypeError KeyError IndexError LookupError
    ZeroDivisionError RuntimeError NotImplementedError StopIteration NotImplemented""".split())
DOUBLE = set("""__init__ __eq__ __ne__ __repr__ __str__ __len__ __enter__ __exit__ __call__ __iter__ __lt__ __le__
    __gt__ __ge__ __add__ __sub__ __mul__ __contains__ __getitem__ __setitem__ __bool__""".split())
BARRED = (ast.AsyncFunctionDef, ast.AsyncFor, ast.AsyncWith, ast.Await, ast.Global)
TAKE_LISTS = {"any", "all", "min", "max", "sum", "sorted"}


def files():
    return [path for path in sorted(PACKAGE.rglob("*")) if "__pycache__" not in path.parts]


def nodes(path, kind):
    return [node for node in ast.walk(ast.parse(path.read_text())) if isinstance(node, kind)]


class Language(unittest.TestCase):
    def test_files(self):
        self.assertTrue((PACKAGE / "__init__.py").is_file())
        for path in files():
            self.assertRegex(path.name, r"\A[a-z0-9_]+\.py\Z")
            lines = path.read_text(encoding="utf-8").split("\n")
            self.assertLessEqual(len(lines), 400, path.name)
            for line in lines:
                self.assertLessEqual(len(line), 120, path.name)
                self.assertRegex(line, r"\A[ -~]*\Z", path.name)

    def test_functions(self):
        for path in files():
            for node in nodes(path, ast.FunctionDef):
                self.assertLessEqual(node.end_lineno - node.lineno + 1, 40, node.name)
                if node.name.startswith("__"):
                    self.assertIn(node.name, DOUBLE)

    def test_imports_are_of_the_package_and_of_the_defining_file(self):
        for path in files():
            self.assertEqual(nodes(path, ast.Import), [])
            for node in nodes(path, ast.ImportFrom):
                self.assertEqual(node.level, 0)
                self.assertNotIn("*", [alias.name for alias in node.names])
                if node.module not in LIBRARY:
                    package, file = node.module.split(".")
                    self.assertEqual(package, "elderinn")
                    defined = [told.name for told in ast.parse((PACKAGE / (file + ".py")).read_text()).body
                               if isinstance(told, (ast.FunctionDef, ast.ClassDef))]
                    for alias in node.names:
                        self.assertIn(alias.name, defined)

    def test_only_what_the_language_has(self):
        for path in files():
            self.assertEqual(nodes(path, BARRED), [])
            self.assertEqual([node for node in nodes(path, ast.Constant) if isinstance(node.value, float)], [])
            self.assertEqual([node for node in nodes(path, ast.BinOp) if isinstance(node.op, ast.Div)], [])

    def test_builtins_are_called_only_where_allowed(self):
        for path in files():
            for node in nodes(path, ast.Name):
                if node.id in dir(builtins):
                    self.assertIn(node.id, BUILTINS, path.name)
                    self.assertIsInstance(node.ctx, ast.Load, path.name)

    def test_lists_instead_of_generators_beside_a_class_that_compares(self):
        for path in files():
            for call in nodes(path, ast.Call):
                if isinstance(call.func, ast.Name) and call.func.id in TAKE_LISTS:
                    self.assertNotIn(ast.GeneratorExp, [type(given) for given in call.args], path.name)


if __name__ == "__main__":
    unittest.main()
