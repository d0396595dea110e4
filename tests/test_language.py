"""Some rules of the Python subset that can be seen in the source files of the package."""

import ast
import builtins
import re
import unittest
from pathlib import Path

FOLDER = Path(__file__).resolve().parent.parent / "evenslices"
FILES = sorted(path for path in FOLDER.rglob("*") if path.is_file() and "__pycache__" not in path.parts)

LIBRARY = {
    "heapq": {"heappush", "heappop", "heapify", "heapreplace", "heappushpop"},
    "math": {"gcd", "lcm", "isqrt", "comb", "perm", "factorial"},
    "itertools": {"product", "combinations", "permutations", "chain", "accumulate", "pairwise", "islice",
                  "zip_longest"},
    "collections": {"defaultdict", "deque"},
}

BUILTINS = set("""
len range enumerate zip min max sum abs sorted reversed int str bool bytes list tuple dict set frozenset isinstance ord
repr any all divmod pow getattr hasattr setattr iter next type map super property staticmethod classmethod Exception
ValueError TypeError KeyError IndexError LookupError ZeroDivisionError ArithmeticError OverflowError RuntimeError
NotImplementedError AttributeError StopIteration NotImplemented
""".split())

BARRED_WORDS = re.compile(
    r"\b(typing|typing_extensions|enum|Enum|IntEnum|StrEnum|Flag|IntFlag|Generic|Protocol|ABC|ABCMeta|namedtuple"
    r"|NamedTuple|TypedDict|TYPE_CHECKING|abstractmethod|global|async|await)\b|dataclass|overload|contextmanager|_wall"
)


def bound_names(tree):
    """Return all names that a file gives a meaning."""
    names = []
    for node in ast.walk(tree):
        if isinstance(node, (ast.FunctionDef, ast.ClassDef)):
            names.append(node.name)
        elif isinstance(node, ast.arg):
            names.append(node.arg)
        elif isinstance(node, ast.Name) and isinstance(node.ctx, ast.Store):
            names.append(node.id)
        elif isinstance(node, ast.alias):
            names.append(node.asname or node.name)
    return names


def functions_of(tree):
    return [node for node in ast.walk(tree) if isinstance(node, ast.FunctionDef)]


class Language(unittest.TestCase):
    def test_files(self):
        self.assertIn(FOLDER / "__init__.py", FILES)
        for path in FILES:
            self.assertRegex(path.name, r"^([a-z][a-z0-9_]*|__init__|__main__)\.py$")

    def test_sources(self):
        for path in FILES:
            text = path.read_text("utf-8")
            tree = ast.parse(text)
            for check in [
                self.check_sizes, self.check_imports, self.check_module_level, self.check_names, self.check_words,
            ]:
                with self.subTest(file=path.name, check=check.__name__):
                    check(text, tree)

    def check_sizes(self, text, tree):
        lines = text.split("\n")
        self.assertLessEqual(len(lines), 399)
        self.assertLessEqual(max(map(len, lines)), 120)
        self.assertRegex(text, r"^[\n -~]*$")
        for node in functions_of(tree):
            self.assertLessEqual(node.end_lineno - node.lineno + 1, 40, node.name)

    def check_imports(self, text, tree):
        for node in ast.walk(tree):
            self.assertNotIsInstance(node, ast.Import)
            if isinstance(node, ast.ImportFrom):
                self.assertIn(node, tree.body)
                self.assertEqual(node.level, 0)
                self.check_import(node)

    def check_import(self, node):
        for alias in node.names:
            self.assertIsNone(alias.asname)
            if not node.module.startswith("evenslices."):
                self.assertIn(alias.name, LIBRARY[node.module])
                continue
            source = ast.parse((FOLDER / (node.module.split(".")[1] + ".py")).read_text("utf-8"))
            own = [part.name for part in source.body if isinstance(part, (ast.FunctionDef, ast.ClassDef))]
            own += [target.id for part in source.body if isinstance(part, ast.Assign) for target in part.targets]
            self.assertIn(alias.name, own)

    def check_module_level(self, text, tree):
        for node in tree.body:
            docstring = isinstance(node, ast.Expr) and isinstance(node.value, ast.Constant)
            plain = (ast.ImportFrom, ast.FunctionDef, ast.ClassDef, ast.Assign)
            self.assertTrue(docstring or isinstance(node, plain), ast.dump(node))

    def check_names(self, text, tree):
        for name in bound_names(tree):
            if not name.startswith("__"):
                self.assertFalse(hasattr(builtins, name), name)
        for node in ast.walk(tree):
            if isinstance(node, ast.Name) and hasattr(builtins, node.id):
                self.assertIn(node.id, BUILTINS)

    def check_words(self, text, tree):
        self.assertIsNone(BARRED_WORDS.search(text))
        for node in ast.walk(tree):
            self.assertNotIsInstance(node, (ast.Div, ast.Global, ast.AsyncFunctionDef, ast.Await))
            # the package has a class with `__eq__` and `__len__`
            self.assertNotIsInstance(node, ast.GeneratorExp)
            self.assertFalse(isinstance(node, ast.Attribute) and node.attr == "sort")
            if isinstance(node, ast.Constant):
                self.assertNotIsInstance(node.value, (float, complex))
                self.assertNotIn("%", node.value if isinstance(node.value, str) else "")
