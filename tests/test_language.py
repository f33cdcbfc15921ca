"""Tests that the files of the package keep to the rules of LANGUAGE.md that a reader of syntax can see."""

import ast
import builtins
import pathlib
import re
import unittest

PACKAGE = pathlib.Path(__file__).resolve().parent.parent / "countsfall"
LIBRARY = {
    "heapq": {"heappush", "heappop", "heapify", "heapreplace", "heappushpop"},
    "math": {"gcd", "lcm", "isqrt", "comb", "perm", "factorial"},
    "itertools": {"product", "combinations", "permutations"},
}
BUILTINS = set(
    "len range enumerate zip min max sum abs sorted reversed int str bool list tuple dict set frozenset isinstance ord repr "
    "any all divmod map iter next super property staticmethod classmethod Exception ValueError TypeError KeyError IndexError "
    "LookupError ZeroDivisionError ArithmeticError OverflowError RuntimeError NotImplementedError StopIteration "
    "NotImplemented".split())
METHODS = set(
    "append clear copy count endswith extend find get index insert isalnum isalpha isdigit islower isspace isupper items join "
    "keys ljust lower lstrip partition pop remove replace reverse rfind rjust rpartition rsplit rstrip setdefault split "
    "splitlines startswith strip update upper values zfill bit_length sort add discard removeprefix removesuffix".split())
WORDS = ("type typing typing_extensions enum Enum IntEnum StrEnum Flag IntFlag Generic Protocol ABC ABCMeta namedtuple "
         "NamedTuple TypedDict TYPE_CHECKING abstractmethod").split()
BARRED = WORDS + "register mro elements open input law version_info with_traceback add_note".split()
# A shell, and what runs examples as one does, keeps the last value under the name _.
PYTHON_NAMES = set(dir(builtins)) - {"_"}
NEVER = (ast.Global, ast.AsyncFunctionDef, ast.AsyncFor, ast.AsyncWith, ast.Await, ast.Div, ast.MatMult)


def sources():
    """Return the dict from each file of the package to its text."""
    return {path.name: path.read_text(encoding="ascii") for path in sorted(PACKAGE.glob("*.py"))}


def trees():
    """Return the dict from each file of the package to its syntax."""
    return {name: ast.parse(text) for name, text in sources().items()}


def bound_names(tree):
    """Return the names that a file binds at its top, one for each binding."""
    names = []
    for row in tree.body:
        if isinstance(row, (ast.FunctionDef, ast.ClassDef)):
            names.append(row.name)
        elif isinstance(row, ast.Assign):
            names.extend(target.id for target in row.targets)
        elif isinstance(row, ast.ImportFrom):
            names.extend(alias.name for alias in row.names)
    return names


def local_names(tree):
    """Return the names of all parameters, local variables and nested functions of a file."""
    names = []
    for function in [node for node in ast.walk(tree) if isinstance(node, (ast.FunctionDef, ast.Lambda))]:
        for node in ast.walk(function):
            if isinstance(node, ast.arg):
                names.append(node.arg)
            elif isinstance(node, ast.Name) and not isinstance(node.ctx, ast.Load):
                names.append(node.id)
    return names


class FilesTest(unittest.TestCase):

    def test_the_folder_holds_python_files_alone(self):
        found = [path.name for path in PACKAGE.iterdir() if path.name != "__pycache__"]
        for name in found:
            self.assertRegex(name, r"^(__init__|__main__|[a-z_0-9]+)\.py$")
        self.assertIn("__init__.py", found)

    def test_characters_and_sizes(self):
        for name, text in sources().items():
            lines = text.split("\n")
            self.assertRegex(text, r"^[\n -~]*$", name)
            self.assertLessEqual(len(lines), 400, name)
            self.assertLessEqual(max(len(line) for line in lines), 120, name)
            for node in ast.walk(ast.parse(text)):
                if isinstance(node, ast.FunctionDef):
                    self.assertLessEqual(node.end_lineno - node.lineno + 1, 40, node.name)

    def test_all_functions_and_classes_are_told_of(self):
        for name, tree in trees().items():
            for node in ast.walk(tree):
                if isinstance(node, (ast.FunctionDef, ast.ClassDef)) and node.name[:2] != "__":
                    self.assertTrue(ast.get_docstring(node), (name, node.name))


class NamesTest(unittest.TestCase):

    def test_imports(self):
        all_trees = trees()
        uses = {}
        for name, tree in all_trees.items():
            uses[name] = []
            for node in ast.walk(tree):
                self.assertNotIsInstance(node, ast.Import, name)
                if isinstance(node, ast.ImportFrom):
                    self.assertIn(node, tree.body)
                    self.assertEqual([node.level] + [alias.asname for alias in node.names], [0] + [None] * len(node.names))
                    self.check_import(all_trees, node, uses[name])
        self.check_no_rings(uses)

    def check_import(self, all_trees, node, used):
        names = {alias.name for alias in node.names}
        if node.module in LIBRARY:
            self.assertLessEqual(names, LIBRARY[node.module])
            return
        package, _, module = node.module.partition(".")
        self.assertEqual(package, "countsfall")
        rows = [row for row in all_trees[module + ".py"].body if not isinstance(row, ast.ImportFrom)]
        self.assertLessEqual(names, set(bound_names(ast.Module(rows, []))))
        used.append(module + ".py")

    def check_no_rings(self, uses):
        left = dict(uses)
        while left:
            free = [name for name in left if not any(other in left for other in left[name])]
            self.assertTrue(free, left)
            for name in free:
                del left[name]

    def test_each_name_is_bound_once_and_is_used(self):
        for name, tree in trees().items():
            bound = bound_names(tree)
            self.assertEqual(len(bound), len(set(bound)), name)
            text = sources()[name]
            for row in [row for row in tree.body if isinstance(row, ast.ImportFrom)]:
                for alias in row.names:
                    self.assertGreater(len(re.findall(rf"\b{alias.name}\b", text)), 1, (name, alias.name))

    def test_local_names(self):
        for name, tree in trees().items():
            taken = {alias.name for row in tree.body if isinstance(row, ast.ImportFrom) for alias in row.names}
            taken |= {row.name for row in tree.body if isinstance(row, ast.ClassDef)}
            for local in local_names(tree):
                self.assertNotIn(local, taken, name)
                self.assertNotIn(local, PYTHON_NAMES, name)
            for bound in bound_names(tree):
                self.assertNotIn(bound, PYTHON_NAMES, name)

    def test_builtins_and_methods(self):
        own = {row.name for tree in trees().values() for node in ast.walk(tree) if isinstance(node, ast.ClassDef)
               for row in node.body if isinstance(row, ast.FunctionDef)}
        for taken in (str, int, list, dict, set, tuple, bytes):
            self.assertFalse((own - {"__init__", "__eq__"}) & set(dir(taken)))
        for name, tree in trees().items():
            for node in ast.walk(tree):
                if isinstance(node, ast.Name) and node.id in PYTHON_NAMES:
                    self.assertIn(node.id, BUILTINS, name)
                if isinstance(node, ast.Call) and isinstance(node.func, ast.Attribute):
                    self.assertIn(node.func.attr, METHODS | own, name)


class SyntaxTest(unittest.TestCase):

    def test_statements_and_signs(self):
        for name, tree in trees().items():
            for row in tree.body:
                plain = isinstance(row, (ast.ImportFrom, ast.FunctionDef, ast.ClassDef, ast.Assign))
                docstring = isinstance(row, ast.Expr) and isinstance(row.value, ast.Constant)
                self.assertTrue(plain or docstring, (name, row.lineno))
            for node in ast.walk(tree):
                self.assertNotIsInstance(node, NEVER, name)
                # A class can be compared, so any, all and sorted take lists.
                self.assertNotIsInstance(node, ast.GeneratorExp, (name, getattr(node, "lineno", 0)))
                if isinstance(node, ast.BinOp) and isinstance(node.op, ast.Pow):
                    self.assertIsInstance(node.right, ast.Constant, name)
                if isinstance(node, ast.Constant):
                    self.assertNotIsInstance(node.value, (float, complex), name)
                if isinstance(node, ast.Call) and isinstance(node.func, ast.Name) and node.func.id in LIBRARY["itertools"]:
                    self.assertFalse([part for part in node.args if isinstance(part, ast.Starred)], name)

    def test_is_stands_beside_none_and_truths_alone(self):
        for name, tree in trees().items():
            for node in ast.walk(tree):
                if isinstance(node, ast.Compare) and any(isinstance(sign, (ast.Is, ast.IsNot)) for sign in node.ops):
                    self.assertIn(repr(node.comparators[0].value), ("None", "True", "False"), name)

    def test_sets_stand_where_they_may(self):
        for name, tree in trees().items():
            allowed = []
            for node in ast.walk(tree):
                if isinstance(node, ast.Call) and isinstance(node.func, ast.Name) and node.func.id in ("sorted", "len"):
                    allowed.extend(node.args)
                elif isinstance(node, ast.Compare):
                    allowed.extend(node.comparators + [node.left])
                elif isinstance(node, ast.Assign):
                    allowed.append(node.value)
            for node in ast.walk(tree):
                called = isinstance(node, ast.Call) and isinstance(node.func, ast.Name) and node.func.id == "set"
                if called or isinstance(node, (ast.Set, ast.SetComp)):
                    self.assertIn(node, allowed, (name, node.lineno))

    def test_words_and_strings(self):
        for name, tree in trees().items():
            docstrings = [ast.get_docstring(node, clean=False) for node in ast.walk(tree)
                          if isinstance(node, (ast.Module, ast.ClassDef, ast.FunctionDef))]
            for node in ast.walk(tree):
                if isinstance(node, ast.Constant) and isinstance(node.value, str):
                    self.assertNotIn("%", node.value, name)
                    if node.value not in docstrings:
                        self.assertFalse(set(re.findall(r"\w+", node.value)) & set(WORDS), node.value)
                if isinstance(node, ast.Name):
                    self.assertNotIn(node.id, BARRED, name)
                if isinstance(node, (ast.arg, ast.Attribute)):
                    self.assertNotIn(node.arg if isinstance(node, ast.arg) else node.attr, BARRED, name)


if __name__ == "__main__":
    unittest.main()
