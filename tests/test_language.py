"""Some rules of the Python subset that are quickly looked at (L1, L2, L4, L8, L10, L14, L27)."""

import ast
import builtins
import pathlib
import unittest

PACKAGE = pathlib.Path(__file__).resolve().parent.parent / "oneroof"
LIBRARY = {"heapq", "math", "itertools", "collections"}
BUILTINS = set(
    "len range enumerate zip min max sum abs sorted reversed int str bool bytes list tuple dict set frozenset"
    " isinstance ord repr any all divmod pow getattr hasattr setattr iter next map super property"
    " staticmethod classmethod Exception ValueError TypeError KeyError IndexError LookupError"
    " ZeroDivisionError ArithmeticError OverflowError RuntimeError NotImplementedError AttributeError"
    " StopIteration NotImplemented object".split()
)


def files():
    found = []
    for path in sorted(PACKAGE.rglob("*.py")):
        text = path.read_text(encoding="utf-8")
        found.append((path.name, text, ast.parse(text)))
    return found


class Language(unittest.TestCase):
    def test_sizes_and_characters(self):
        for name, text, tree in files():
            with self.subTest(name=name):
                self.assertLessEqual(len(text.split("\n")), 400)
                self.assertEqual([line for line in text.split("\n") if len(line) > 120], [])
                self.assertEqual([sign for sign in text if sign != "\n" and not " " <= sign <= "~"], [])
                long = [
                    node.name
                    for node in ast.walk(tree)
                    if isinstance(node, ast.FunctionDef) and node.end_lineno - node.lineno >= 40
                ]
                self.assertEqual(long, [])

    def test_imports(self):
        for name, _, tree in files():
            for node in ast.walk(tree):
                with self.subTest(name=name, line=getattr(node, "lineno", 0)):
                    self.assertNotIsInstance(node, ast.Import)
                    if isinstance(node, ast.ImportFrom):
                        self.assertIn(node, tree.body)
                        self.assertTrue(node.module in LIBRARY or node.module.startswith("oneroof."))

    def test_builtins(self):
        every = set(dir(builtins))
        for name, _, tree in files():
            used = {node.id for node in ast.walk(tree) if isinstance(node, ast.Name)}
            with self.subTest(name=name):
                self.assertEqual(sorted((used & every) - BUILTINS), [])

    def test_no_floats_and_no_global(self):
        barred = (ast.Div, ast.Global, ast.AsyncFunctionDef, ast.Await)
        for name, _, tree in files():
            for node in ast.walk(tree):
                with self.subTest(name=name, line=getattr(node, "lineno", 0)):
                    self.assertNotIsInstance(node, barred)
                    if isinstance(node, ast.Constant):
                        self.assertNotIsInstance(node.value, (float, complex))
                        self.assertFalse(isinstance(node.value, str) and "%" in node.value)


if __name__ == "__main__":
    unittest.main()
