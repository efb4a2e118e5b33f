"""What can be seen of LANGUAGE.md by a look at the files of the package."""

import ast
import builtins
import unittest
from pathlib import Path

PACKAGE = Path(__file__).resolve().parent.parent / "barterheaps"
FILES = sorted(PACKAGE.glob("*.py"))
LIBRARY = {
    "heapq": {"heappush", "heappop", "heapify", "heapreplace", "heappushpop"},
    "math": {"gcd", "lcm", "isqrt", "comb", "perm", "factorial"},
    "itertools": {"chain", "accumulate", "pairwise", "islice", "zip_longest"},
    "collections": {"defaultdict", "deque"},
}
BUILTINS = set(
    "len range enumerate zip min max sum abs sorted reversed int str bool bytes list tuple dict set isinstance ord "
    "repr any all divmod pow iter next map Exception ValueError TypeError KeyError IndexError LookupError "
    "ZeroDivisionError ArithmeticError OverflowError RuntimeError NotImplementedError AttributeError "
    "StopIteration NotImplemented property staticmethod classmethod super type getattr hasattr setattr".split()
)


def names(tree, context):
    """The names that are read or assigned, as the context tells."""
    return {node.id for node in ast.walk(tree) if isinstance(node, ast.Name) and isinstance(node.ctx, context)}


def bound_names(tree):
    """The names that are bound anywhere, those of methods left out."""
    bound = names(tree, ast.Store)
    for node in ast.walk(tree):
        if isinstance(node, ast.arg):
            bound.add(node.arg)
        if isinstance(node, ast.ImportFrom):
            bound |= {alias.name for alias in node.names}
        if isinstance(node, (ast.FunctionDef, ast.Module)):
            bound |= {part.name for part in node.body if isinstance(part, (ast.FunctionDef, ast.ClassDef))}
    return bound


class FormTest(unittest.TestCase):

    def each(self):
        """For each file its name, its text and its tree."""
        texts = [(path.name, path.read_text(encoding="utf-8")) for path in FILES]
        return [(name, text, ast.parse(text)) for name, text in texts]

    def test_the_folder_holds_files_of_python_only(self):
        self.assertTrue(FILES)
        others = [path.name for path in PACKAGE.iterdir() if path.suffix != ".py" and path.name != "__pycache__"]
        self.assertEqual(others, [])

    def test_sizes_and_characters(self):
        for name, text, tree in self.each():
            with self.subTest(name):
                lines = text.split("\n")
                self.assertLess(len(lines), 400)
                self.assertLessEqual(max(len(line) for line in lines), 120)
                self.assertTrue(all(" " <= sign <= "~" or sign == "\n" for sign in text))
                for node in ast.walk(tree):
                    if isinstance(node, ast.FunctionDef):
                        self.assertLessEqual(node.end_lineno - node.lineno, 39, node.name)

    def test_imports(self):
        own = {path.stem for path in FILES}
        for name, _, tree in self.each():
            with self.subTest(name):
                for node in ast.walk(tree):
                    self.assertNotIsInstance(node, ast.Import)
                    if isinstance(node, ast.ImportFrom):
                        words = {alias.name for alias in node.names}
                        self.assertEqual([alias.asname for alias in node.names], [None] * len(node.names))
                        if node.module in LIBRARY:
                            self.assertLessEqual(words, LIBRARY[node.module])
                        else:
                            package, _, file = node.module.partition(".")
                            self.assertEqual((package, node.level), ("barterheaps", 0))
                            self.assertIn(file, own)

    def test_names_are_defined_or_listed(self):
        for name, _, tree in self.each():
            with self.subTest(name):
                bound = bound_names(tree)
                self.assertLessEqual(names(tree, ast.Load) - bound, BUILTINS)
                self.assertEqual({word for word in bound if hasattr(builtins, word)}, set())

    def test_signs(self):
        barred = (ast.Div, ast.AsyncFunctionDef, ast.Global, ast.GeneratorExp, ast.Await)
        for name, _, tree in self.each():
            with self.subTest(name):
                for node in ast.walk(tree):
                    self.assertNotIsInstance(node, barred)
                    if isinstance(node, ast.Constant):
                        self.assertNotIsInstance(node.value, (float, complex))

    def test_module_level(self):
        plain = (ast.Expr, ast.ImportFrom, ast.FunctionDef, ast.ClassDef, ast.Assign)
        for name, _, tree in self.each():
            with self.subTest(name):
                for node in tree.body:
                    self.assertIsInstance(node, plain)
                    if isinstance(node, ast.Expr):
                        self.assertIsInstance(node.value, ast.Constant)

    def test_sets_are_not_iterated(self):
        for name, _, tree in self.each():
            with self.subTest(name):
                for node in ast.walk(tree):
                    if isinstance(node, (ast.For, ast.comprehension)):
                        self.assertNotIsInstance(node.iter, (ast.Set, ast.SetComp))


if __name__ == "__main__":
    unittest.main()
