"""Checks the rules of the language subset that can be seen from the text of a file alone."""

import ast
import builtins
import pathlib
import re
import unittest

PACKAGE = pathlib.Path(__file__).resolve().parent.parent / "greatestnext"
FILES = sorted(path for path in PACKAGE.rglob("*") if "__pycache__" not in path.parts and path.is_file())
LIBRARY = {
    "heapq": {"heappush", "heappop", "heapify", "heapreplace", "heappushpop"},
    "math": {"gcd", "lcm", "isqrt", "comb", "perm", "factorial"},
    "itertools": {"product", "combinations", "permutations", "chain", "accumulate", "pairwise", "islice", "zip_longest"},
    "collections": {"defaultdict", "deque"},
}
DOUBLE = {
    "__init__", "__eq__", "__repr__", "__str__", "__len__", "__enter__", "__exit__", "__call__", "__iter__",
    "__contains__", "__add__", "__sub__", "__mul__",
}
BUILTINS = set(
    "len range enumerate zip min max sum abs sorted reversed int str bool list tuple dict set isinstance ord repr any all "
    "divmod ValueError TypeError KeyError IndexError LookupError ZeroDivisionError NotImplemented staticmethod classmethod "
    "property super".split()
)
BARRED = set(
    "register mro elements open input law version_info with_traceback add_note eval exec compile globals locals vars dir "
    "id type typing enum Enum Generic Protocol ABC namedtuple dataclass".split()
)


def docstrings(tree):
    """Return the nodes of all docstrings."""
    holders = [node for node in ast.walk(tree) if isinstance(node, (ast.Module, ast.ClassDef, ast.FunctionDef))]
    firsts = [node.body[0] for node in holders if node.body]
    return {first.value for first in firsts if isinstance(first, ast.Expr) and isinstance(first.value, ast.Constant)}


TREES = [(path.name, ast.parse(path.read_text("ascii"))) for path in FILES]


def name_given(node):
    """Return the name that this node binds or reads as an attribute, or None."""
    if isinstance(node, (ast.FunctionDef, ast.ClassDef)):
        return node.name
    if isinstance(node, ast.arg):
        return node.arg
    if isinstance(node, ast.Name) and isinstance(node.ctx, ast.Store):
        return node.id
    return node.attr if isinstance(node, ast.Attribute) else None


class Language(unittest.TestCase):
    def test_files(self):
        self.assertIn(PACKAGE / "__init__.py", FILES)
        self.assertLessEqual(len(FILES), 100)
        for path in FILES:
            self.assertRegex(path.name, r"^[a-z0-9_]+\.py$")
            self.assertEqual(path.parent, PACKAGE)

    def test_signs_and_sizes(self):
        for path in FILES:
            text = path.read_bytes().decode("ascii")
            self.assertRegex(text, r"^[ -~\n]*\Z", path.name)
            lines = text.split("\n")
            self.assertLessEqual(len(lines), 399, path.name)
            self.assertLessEqual(max(len(line) for line in lines), 120, path.name)
            self.assertIsNone(re.search(r"_wall", text))

    def test_length_of_functions(self):
        for file, tree in TREES:
            for node in ast.walk(tree):
                if isinstance(node, ast.FunctionDef):
                    self.assertLessEqual(node.end_lineno - node.lineno + 1, 40, f"{file}: {node.name}")

    def test_imports(self):
        for file, tree in TREES:
            for node in ast.walk(tree):
                self.assertNotIsInstance(node, ast.Import, file)
                if isinstance(node, ast.ImportFrom):
                    self.assertEqual(node.level, 0)
                    names = {alias.name for alias in node.names}
                    if node.module in LIBRARY:
                        self.assertLessEqual(names, LIBRARY[node.module], file)
                        continue
                    home = PACKAGE / (node.module.removeprefix("greatestnext.") + ".py")
                    self.assertTrue(node.module.startswith("greatestnext.") and home in FILES, node.module)
                    defined = ast.parse(home.read_text("ascii")).body
                    bound = {part.name for part in defined if isinstance(part, (ast.FunctionDef, ast.ClassDef))}
                    bound |= {target.id for part in defined if isinstance(part, ast.Assign) for target in part.targets}
                    self.assertLessEqual(names, bound, file)

    def test_module_level(self):
        kinds = (ast.ImportFrom, ast.FunctionDef, ast.ClassDef, ast.Assign)
        for file, tree in TREES:
            found = docstrings(tree)
            for node in tree.body:
                if not (isinstance(node, ast.Expr) and node.value in found):
                    self.assertIsInstance(node, kinds, file)

    def test_decorators_and_classes(self):
        for file, tree in TREES:
            for node in ast.walk(tree):
                if isinstance(node, ast.ClassDef):
                    self.assertEqual(node.decorator_list, [], file)
                if isinstance(node, ast.FunctionDef):
                    for decorator in node.decorator_list:
                        word = ast.unparse(decorator).split(".")[-1]
                        self.assertIn(word, ("staticmethod", "classmethod", "property", "setter"), file)

    def test_what_is_not_in_the_subset(self):
        never = (
            ast.AsyncFunctionDef, ast.Await, ast.AsyncFor, ast.AsyncWith, ast.Global, ast.YieldFrom, ast.GeneratorExp,
            ast.AnnAssign, ast.Div, ast.MatMult,
        )
        for file, tree in TREES:
            for node in ast.walk(tree):
                self.assertNotIsInstance(node, never, f"{file}, line {getattr(node, 'lineno', None)}")
                if isinstance(node, ast.Constant):
                    self.assertNotIsInstance(node.value, (float, complex), file)
                if isinstance(node, ast.Raise) and node.exc is not None:
                    self.assertIsInstance(node.exc, ast.Call, file)
                    self.assertIsInstance(node.exc.func, ast.Name, file)

    def test_strings(self):
        for file, tree in TREES:
            found = docstrings(tree)
            for node in ast.walk(tree):
                if isinstance(node, ast.Constant) and isinstance(node.value, str) and node not in found:
                    self.assertNotIn("%", node.value, file)
                    self.assertFalse(set(re.findall(r"\w+", node.value)) & BARRED, file)

    def test_exponents(self):
        for file, tree in TREES:
            for node in ast.walk(tree):
                if isinstance(node, ast.BinOp) and isinstance(node.op, ast.Pow):
                    self.assertIsInstance(node.right, ast.Constant, file)
                    self.assertIn(node.right.value, range(65), file)

    def test_names(self):
        for file, tree in TREES:
            methods = {part for node in ast.walk(tree) if isinstance(node, ast.ClassDef) for part in node.body}
            for node in ast.walk(tree):
                name = name_given(node)
                if name is None or name in DOUBLE and (node in methods or isinstance(node, ast.Attribute)):
                    continue
                self.assertRegex(name, r"^(_|_?[A-Za-z][A-Za-z0-9_]*)$", file)
                self.assertNotIn(name, BARRED, file)
                if not isinstance(node, ast.Attribute) and node not in methods:
                    self.assertFalse(hasattr(builtins, name), f"{file}: {name}")

    def test_builtins(self):
        for file, tree in TREES:
            for node in ast.walk(tree):
                if isinstance(node, ast.Name) and hasattr(builtins, node.id):
                    self.assertIn(node.id, BUILTINS, file)

    def test_local_names_are_no_classes_or_imports(self):
        for file, tree in TREES:
            taken = {node.name for node in tree.body if isinstance(node, ast.ClassDef)}
            taken |= {alias.name for node in tree.body if isinstance(node, ast.ImportFrom) for alias in node.names}
            for node in ast.walk(tree):
                if isinstance(node, ast.arg):
                    self.assertNotIn(node.arg, taken, file)
                if isinstance(node, ast.Name) and isinstance(node.ctx, ast.Store):
                    self.assertNotIn(node.id, taken, file)
