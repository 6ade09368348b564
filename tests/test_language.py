"""Some rules of the Python subset that are quickly looked at (L1, L2, L4, L8, L10, L12, L14 to L17, L24, L25, L27)."""

import ast
import builtins
import pathlib
import unittest

PACKAGE = pathlib.Path(__file__).resolve().parent.parent / "oneroof"
LIBRARY = {"heapq", "math", "itertools", "collections"}
BUILTINS = set(
    "len range enumerate zip min max sum abs sorted reversed int str bool bytes list tuple dict set frozenset"
    " isinstance ord repr any all divmod pow getattr hasattr setattr iter next map super property"
    " staticmethod classmethod Exception ValueError TypeError KeyError IndexError LookupError"
    " ZeroDivisionError ArithmeticError OverflowError RuntimeError NotImplementedError AttributeError"
    " StopIteration NotImplemented object".split()
)


BARRED = set(
    "register mro elements open input law version_info with_traceback add_note type typing enum dataclass overload"
    " contextmanager namedtuple abstractmethod compile dir eval exec exit globals help id locals os quit sys vars".split()
)


def imported(tree):
    """What a file imports from files of the package: (name, file)."""
    return [
        (alias.name, node.module.split(".")[1])
        for node in tree.body
        if isinstance(node, ast.ImportFrom) and node.module.startswith("oneroof.")
        for alias in node.names
    ]


def defined(tree):
    """The names that a file binds at module level, but for its imports."""
    names = [node.name for node in tree.body if isinstance(node, (ast.FunctionDef, ast.ClassDef))]
    return names + [target.id for node in tree.body if isinstance(node, ast.Assign) for target in node.targets]


def files():
    found = []
    for path in sorted(PACKAGE.rglob("*.py")):
        text = path.read_text(encoding="utf-8")
        found.append((path.name, text, ast.parse(text)))
    return found


class Language(unittest.TestCase):
    def test_sizes_and_characters(self):
        for name, text, tree in files():
            with self.subTest(name=name):
                self.assertLessEqual(len(text.split("\n")), 400)
                self.assertEqual([line for line in text.split("\n") if len(line) > 120], [])
                self.assertEqual([sign for sign in text if sign != "\n" and not " " <= sign <= "~"], [])
                long = [
                    node.name
                    for node in ast.walk(tree)
                    if isinstance(node, ast.FunctionDef) and node.end_lineno - node.lineno >= 40
                ]
                self.assertEqual(long, [])

    def test_imports(self):
        for name, _, tree in files():
            for node in ast.walk(tree):
                with self.subTest(name=name, line=getattr(node, "lineno", 0)):
                    self.assertNotIsInstance(node, ast.Import)
                    if isinstance(node, ast.ImportFrom):
                        self.assertIn(node, tree.body)
                        self.assertTrue(node.module in LIBRARY or node.module.startswith("oneroof."))

    def test_builtins(self):
        every = set(dir(builtins))
        for name, _, tree in files():
            used = {node.id for node in ast.walk(tree) if isinstance(node, ast.Name)}
            with self.subTest(name=name):
                self.assertEqual(sorted((used & every) - BUILTINS), [])

    def test_imports_name_the_file_that_defines_the_name_and_no_files_go_in_a_ring(self):
        trees = {name[:-3]: tree for name, _, tree in files()}
        behind = {name: {file for _, file in imported(tree)} for name, tree in trees.items()}
        for name, tree in trees.items():
            for word, file in imported(tree):
                with self.subTest(name=name, word=word):
                    self.assertIn(word, defined(trees[file]))
        while behind:
            free = [name for name in behind if not behind[name] & set(behind)]
            self.assertNotEqual(free, [])
            for name in free:
                del behind[name]

    def test_no_local_name_is_that_of_an_import_or_a_class(self):
        for name, _, tree in files():
            barred = {word for word, _ in imported(tree)} | {node.name for node in tree.body if isinstance(node, ast.ClassDef)}
            found = {node.id for node in ast.walk(tree) if isinstance(node, ast.Name) and isinstance(node.ctx, ast.Store)}
            found |= {node.arg for node in ast.walk(tree) if isinstance(node, ast.arg)}
            with self.subTest(name=name):
                self.assertEqual(sorted(found & barred), [])
                self.assertEqual(sorted(found & (set(dir(builtins)) | BARRED)), [])
                self.assertEqual(len(defined(tree)), len(set(defined(tree)) | barred) - len(barred - set(defined(tree))))

    def test_underscore_alone_is_never_read(self):
        for name, _, tree in files():
            read = [node for node in ast.walk(tree) if isinstance(node, ast.Name) and isinstance(node.ctx, ast.Load)]
            with self.subTest(name=name):
                self.assertEqual([node.lineno for node in read if node.id == "_"], [])

    def test_no_barred_words_but_in_docstrings(self):
        for name, _, tree in files():
            for node in ast.walk(tree):
                word = getattr(node, "id", None) or getattr(node, "attr", None) or getattr(node, "arg", None)
                with self.subTest(name=name, line=getattr(node, "lineno", 0)):
                    self.assertNotIn(word, BARRED)

    def test_no_sets_are_iterated_and_no_list_sorts_itself(self):
        for name, _, tree in files():
            for node in ast.walk(tree):
                with self.subTest(name=name, line=getattr(node, "lineno", 0)):
                    if isinstance(node, (ast.For, ast.comprehension)):
                        self.assertFalse(isinstance(node.iter, ast.Call) and getattr(node.iter.func, "id", "") in ("set", "frozenset"))
                        self.assertNotIsInstance(node.iter, (ast.Set, ast.SetComp))
                    if isinstance(node, ast.Attribute):
                        self.assertNotEqual(node.attr, "sort")

    def test_no_floats_and_no_global(self):
        barred = (ast.Div, ast.Global, ast.AsyncFunctionDef, ast.Await)
        for name, _, tree in files():
            for node in ast.walk(tree):
                with self.subTest(name=name, line=getattr(node, "lineno", 0)):
                    self.assertNotIsInstance(node, barred)
                    if isinstance(node, ast.Constant):
                        self.assertNotIsInstance(node.value, (float, complex))
                        self.assertFalse(isinstance(node.value, str) and "%" in node.value)


if __name__ == "__main__":
    unittest.main()
