"""What can be seen of LANGUAGE.md by a look at the files of the package."""

import ast
import builtins
import unittest
from pathlib import Path

PACKAGE = Path(__file__).resolve().parent.parent / "barterheaps"
FILES = sorted(PACKAGE.glob("*.py"))
LIBRARY = {
    "heapq": {"heappush", "heappop", "heapify", "heapreplace", "heappushpop"},
    "math": {"gcd", "lcm", "isqrt", "comb", "perm", "factorial"},
    "itertools": {"chain", "accumulate", "pairwise", "islice", "zip_longest"},
    "collections": {"defaultdict", "deque"},
}
BUILTINS = set(
    "len range enumerate zip min max sum abs sorted reversed int str bool bytes list tuple dict set isinstance ord "
    "repr any all divmod pow iter next map Exception ValueError TypeError KeyError IndexError LookupError "
    "ZeroDivisionError ArithmeticError OverflowError RuntimeError NotImplementedError AttributeError "
    "StopIteration NotImplemented property staticmethod classmethod super type getattr hasattr setattr".split()
)

# What L25 lets be called on values of Python's own, as far as there may be need of it.
METHODS = set(
    "append clear count endswith extend find get index insert isdigit items join keys partition pop remove replace "
    "reverse setdefault split startswith strip update values".split()
)
# L2 Products and L25 bar these beside a class with __len__, __iter__ and __eq__.
BARRED_BESIDE_DESKS = {"product", "combinations", "permutations", "sort"}
MODIFYING = set("add append clear discard extend insert pop remove reverse setdefault sort update".split())
VIEWS = {"items", "keys", "values"}
WRAPPERS = {"enumerate", "zip", "reversed"}


def names(tree, context):
    """The names that are read or assigned, as the context tells."""
    return {node.id for node in ast.walk(tree) if isinstance(node, ast.Name) and isinstance(node.ctx, context)}


def bound_names(tree):
    """The names that are bound anywhere, those of methods left out."""
    bound = names(tree, ast.Store)
    for node in ast.walk(tree):
        if isinstance(node, ast.arg):
            bound.add(node.arg)
        if isinstance(node, ast.ImportFrom):
            bound |= {alias.name for alias in node.names}
        if isinstance(node, (ast.FunctionDef, ast.Module)):
            bound |= {part.name for part in node.body if isinstance(part, (ast.FunctionDef, ast.ClassDef))}
    return bound


def handles(node):
    """The names and attributes, as texts, whose list or dict the expression may be, or may hold or be held by."""
    if isinstance(node, ast.Name):
        return {node.id}
    if isinstance(node, ast.Attribute):
        return {ast.unparse(node)}
    if isinstance(node, (ast.Subscript, ast.NamedExpr, ast.Starred)):
        return handles(node.value)
    if isinstance(node, ast.IfExp):
        return handles(node.body) | handles(node.orelse)
    if isinstance(node, ast.BoolOp):
        return set().union(*[handles(part) for part in node.values])
    if isinstance(node, ast.Call) and isinstance(node.func, ast.Name) and node.func.id in WRAPPERS:
        return set().union(*[handles(part) for part in node.args])
    if isinstance(node, ast.Call) and isinstance(node.func, ast.Attribute):
        if node.func.attr in VIEWS | {"get", "pop", "setdefault"}:
            return handles(node.func.value)
    return set()


def with_shared(found, shared):
    """The handles and all those that assignments tie to them."""
    size = 0
    while size < len(found):
        size = len(found)
        for pair in shared:
            if found & pair:
                found = found | pair
    return found


def shared_handles(function):
    """For each assignment in the function the handles of both of its sides."""
    found = []
    for node in ast.walk(function):
        if isinstance(node, ast.Assign):
            found.extend([handles(target) | handles(node.value) for target in node.targets])
        if isinstance(node, (ast.AnnAssign, ast.NamedExpr)) and node.value is not None:
            found.append(handles(node.target) | handles(node.value))
    return found


def modified_handles(part):
    """The handles of what is modified anywhere in the part, as pairs (handle, line)."""
    found = []
    for node in ast.walk(part):
        changed = []
        if isinstance(node, ast.Call) and isinstance(node.func, ast.Attribute) and node.func.attr in MODIFYING:
            changed = [node.func.value]
        elif isinstance(node, ast.Call) and isinstance(node.func, ast.Name) and node.func.id in LIBRARY["heapq"]:
            changed = node.args[:1]
        elif isinstance(node, ast.Subscript) and isinstance(node.ctx, (ast.Store, ast.Del)):
            changed = [node.value]
        elif isinstance(node, ast.AugAssign):
            changed = [node.target]
        found.extend([(handle, node.lineno) for what in changed for handle in handles(what)])
    return found


def walks(function):
    """For each loop and comprehension in the function what it goes over, and the parts that it does meanwhile."""
    found = []
    for node in ast.walk(function):
        if isinstance(node, ast.For):
            found.append((node.iter, node.body))
        if isinstance(node, (ast.ListComp, ast.SetComp, ast.DictComp, ast.GeneratorExp)):
            found.extend([(part.iter, [node]) for part in node.generators])
    return found


def lines_that_change_a_walk(tree):
    """The ascending list of the lines at which something is modified that is gone over there (L23)."""
    lines = set()
    for function in [node for node in ast.walk(tree) if isinstance(node, ast.FunctionDef)]:
        shared = shared_handles(function)
        for walked, parts in walks(function):
            own = with_shared(handles(walked), shared)
            for part in parts:
                lines |= {line for handle, line in modified_handles(part) if handle in own}
    return sorted(lines)


class FormTest(unittest.TestCase):

    def each(self):
        """For each file its name, its text and its tree."""
        texts = [(path.name, path.read_text(encoding="utf-8")) for path in FILES]
        return [(name, text, ast.parse(text)) for name, text in texts]

    def test_the_folder_holds_files_of_python_only(self):
        self.assertTrue(FILES)
        others = [path.name for path in PACKAGE.iterdir() if path.suffix != ".py" and path.name != "__pycache__"]
        self.assertEqual(others, [])

    def test_sizes_and_characters(self):
        for name, text, tree in self.each():
            with self.subTest(name):
                lines = text.split("\n")
                self.assertLess(len(lines), 400)
                self.assertLessEqual(max(len(line) for line in lines), 120)
                self.assertTrue(all(" " <= sign <= "~" or sign == "\n" for sign in text))
                for node in ast.walk(tree):
                    if isinstance(node, ast.FunctionDef):
                        self.assertLessEqual(node.end_lineno - node.lineno, 39, node.name)

    def test_imports(self):
        own = {path.stem for path in FILES}
        for name, _, tree in self.each():
            with self.subTest(name):
                for node in ast.walk(tree):
                    self.assertNotIsInstance(node, ast.Import)
                    if isinstance(node, ast.ImportFrom):
                        words = {alias.name for alias in node.names}
                        self.assertEqual([alias.asname for alias in node.names], [None] * len(node.names))
                        if node.module in LIBRARY:
                            self.assertLessEqual(words, LIBRARY[node.module])
                        else:
                            package, _, file = node.module.partition(".")
                            self.assertEqual((package, node.level), ("barterheaps", 0))
                            self.assertIn(file, own)

    def test_names_are_defined_or_listed(self):
        for name, _, tree in self.each():
            with self.subTest(name):
                bound = bound_names(tree)
                self.assertLessEqual(names(tree, ast.Load) - bound, BUILTINS)
                self.assertEqual({word for word in bound if hasattr(builtins, word)}, set())

    def test_signs(self):
        barred = (ast.Div, ast.AsyncFunctionDef, ast.Global, ast.GeneratorExp, ast.Await)
        for name, _, tree in self.each():
            with self.subTest(name):
                for node in ast.walk(tree):
                    self.assertNotIsInstance(node, barred)
                    if isinstance(node, ast.Constant):
                        self.assertNotIsInstance(node.value, (float, complex))

    def test_methods_that_are_called(self):
        own = {node.name for _, _, tree in self.each() for node in ast.walk(tree) if isinstance(node, ast.FunctionDef)}
        for name, _, tree in self.each():
            with self.subTest(name):
                words = {
                    node.func.attr for node in ast.walk(tree)
                    if isinstance(node, ast.Call) and isinstance(node.func, ast.Attribute)
                }
                self.assertLessEqual(words, METHODS | {word for word in own if word[0] == "_"})
                every = {node.name for node in ast.walk(tree) if isinstance(node, ast.alias)} | words
                self.assertEqual(every & BARRED_BESIDE_DESKS, set())

    def test_no_variable_has_the_name_of_an_import_or_a_class(self):
        for name, _, tree in self.each():
            with self.subTest(name):
                outer = {alias.name for node in tree.body if isinstance(node, ast.ImportFrom) for alias in node.names}
                outer |= {node.name for node in tree.body if isinstance(node, ast.ClassDef)}
                inner = names(tree, ast.Store) | {node.arg for node in ast.walk(tree) if isinstance(node, ast.arg)}
                self.assertEqual(outer & inner, set())

    def test_no_two_files_import_from_each_other(self):
        needs = {}
        for name, _, tree in self.each():
            modules = [node.module for node in tree.body if isinstance(node, ast.ImportFrom)]
            needs[name[:-3]] = {word.partition(".")[2] for word in modules if word.startswith("barterheaps.")}
        while needs:
            ready = [name for name, others in needs.items() if not others & set(needs)]
            self.assertTrue(ready, needs)
            needs = {name: others for name, others in needs.items() if name not in ready}

    def test_methods_with_double_underscores(self):
        found = set()
        for name, _, tree in self.each():
            for node in ast.walk(tree):
                if isinstance(node, ast.FunctionDef) and node.name.startswith("__") and name != "errors.py":
                    found.add(node.name)
        self.assertEqual(found, {"__init__", "__len__", "__contains__", "__eq__", "__iter__"})

    def test_strings(self):
        for name, _, tree in self.each():
            with self.subTest(name):
                for node in ast.walk(tree):
                    if isinstance(node, ast.Constant) and isinstance(node.value, str):
                        self.assertNotIn("%", node.value)
                    self.assertNotIsInstance(node, (ast.Try, ast.With, ast.Match, ast.Lambda, ast.Yield, ast.JoinedStr))

    def test_module_level(self):
        plain = (ast.Expr, ast.ImportFrom, ast.FunctionDef, ast.ClassDef, ast.Assign)
        for name, _, tree in self.each():
            with self.subTest(name):
                for node in tree.body:
                    self.assertIsInstance(node, plain)
                    if isinstance(node, ast.Expr):
                        self.assertIsInstance(node.value, ast.Constant)

    def test_sets_are_not_iterated(self):
        for name, _, tree in self.each():
            with self.subTest(name):
                for node in ast.walk(tree):
                    if isinstance(node, (ast.For, ast.comprehension)):
                        self.assertNotIsInstance(node.iter, (ast.Set, ast.SetComp))

    def test_nothing_changes_what_a_loop_goes_over(self):
        for name, _, tree in self.each():
            with self.subTest(name):
                self.assertEqual(lines_that_change_a_walk(tree), [])


class WalkTest(unittest.TestCase):
    """Whether the look at what loops go over sees what it looks for."""

    def lines(self, *rows):
        """The lines that are found in a function f(xs, box) with these rows; the first of them is line 2."""
        return lines_that_change_a_walk(ast.parse("\n".join(["def f(xs, box):"] + ["    " + row for row in rows])))

    def test_by_its_own_name(self):
        self.assertEqual(self.lines("for x in xs:", "    xs.append(x)"), [3])
        self.assertEqual(self.lines("for x in enumerate(xs):", "    xs[0] = x"), [3])
        self.assertEqual(self.lines("for x in xs.items():", "    del xs[0]"), [3])
        self.assertEqual(self.lines("for x in xs:", "    xs += [x]"), [3])
        self.assertEqual(self.lines("return [xs.pop() for x in xs]"), [2])

    def test_by_another_name(self):
        rows = ["level = xs", "while level:", "    further = []", "    for x in level:", "        further.append(x)"]
        self.assertEqual(self.lines(*rows, "    level = further"), [6])
        self.assertEqual(self.lines(*rows, "    rest = further", "    level = rest"), [6])
        self.assertEqual(self.lines(*rows, "    level = further or xs"), [6])
        self.assertEqual(self.lines(*rows, "    level = further if xs else []"), [6])

    def test_by_a_field_an_item_or_a_choice(self):
        self.assertEqual(self.lines("for x in box.rows:", "    box.rows.append(x)"), [3])
        self.assertEqual(self.lines("rows = box.rows", "for x in rows:", "    box.rows.append(x)"), [4])
        self.assertEqual(self.lines("for x in xs[0]:", "    xs[0].append(x)"), [3])
        self.assertEqual(self.lines("for x in xs if box else []:", "    xs.append(x)"), [3])
        self.assertEqual(self.lines("for x in box or xs:", "    xs.append(x)"), [3])

    def test_copies_and_other_lists(self):
        rows = ["level = xs", "while level:", "    further = []", "    for x in list(level):"]
        self.assertEqual(self.lines(*rows, "        further.append(x)", "    level = further"), [])
        self.assertEqual(self.lines("for x in list(xs):", "    xs.remove(x)"), [])
        self.assertEqual(self.lines("found = []", "for x in xs:", "    found.append(x)", "xs.append(1)"), [])


if __name__ == "__main__":
    unittest.main()
