"""Those rules of ../shared/LANGUAGE.md that a short test can look after, over the files of the package."""

import ast
import builtins
import pathlib
import re
import unittest

PACKAGE = pathlib.Path(__file__).resolve().parent.parent / "wherebegun"
LIBRARY = {
    "heapq": {"heappush", "heappop", "heapify", "heapreplace", "heappushpop"},
    "math": {"gcd", "lcm", "isqrt", "comb", "perm", "factorial"},
    "itertools": {"product", "combinations", "permutations"},
}
ALLOWED_BUILTINS = set(
    "len range enumerate zip min max sum abs sorted reversed int str bool bytes list tuple dict set frozenset "
    "isinstance ord repr any all divmod iter next map super property staticmethod classmethod Exception ValueError "
    "TypeError KeyError IndexError LookupError ZeroDivisionError ArithmeticError OverflowError RuntimeError "
    "NotImplementedError AttributeError StopIteration NotImplemented".split())
BARRED_WORDS = re.compile(
    r"\b(type|typing|typing_extensions|enum|Enum|IntEnum|StrEnum|Flag|IntFlag|Generic|Protocol|ABC|ABCMeta|"
    r"namedtuple|NamedTuple|TypedDict|TYPE_CHECKING|abstractmethod|register|mro|elements|open|input|law|eval|exec)\b")
BARRED_NODES = (
    ast.Global, ast.AsyncFunctionDef, ast.AsyncFor, ast.AsyncWith, ast.Await, ast.Import, ast.Div, ast.MatMult,
    ast.TryStar, ast.MatchClass, ast.MatchMapping)


def files():
    return sorted(PACKAGE.rglob("*.py"))


def trees():
    return [(path, ast.parse(path.read_text(encoding="ascii"))) for path in files()]


def nodes(kinds):
    return [(path, node) for path, tree in trees() for node in ast.walk(tree) if isinstance(node, kinds)]


def docstrings(tree):
    holders = [node for node in ast.walk(tree) if isinstance(node, (ast.Module, ast.ClassDef, ast.FunctionDef))]
    return [node.body[0].value for node in holders if ast.get_docstring(node) is not None]


class LanguageTest(unittest.TestCase):
    def test_the_folder_holds_plain_files_only(self):
        self.assertTrue((PACKAGE / "__init__.py").exists())
        for path in PACKAGE.rglob("*"):
            if path.name != "__pycache__" and path.parent.name != "__pycache__":
                self.assertRegex(path.name, r"^(__init__|__main__|[a-z][a-z0-9_]*)\.py$")

    def test_sizes_and_characters(self):
        for path in files():
            text = path.read_bytes().decode("ascii")
            self.assertRegex(text, r"^[\n -~]*\Z", path)
            self.assertLessEqual(len(text.split("\n")), 399, path)
            self.assertLessEqual(max(len(line) for line in text.split("\n")), 120, path)
        for path, node in nodes(ast.FunctionDef):
            self.assertLessEqual(node.end_lineno - node.lineno + 1, 40, (path, node.name))

    def test_imports(self):
        defined = {}
        for path, tree in trees():
            held = [node.name for node in tree.body if isinstance(node, (ast.FunctionDef, ast.ClassDef))]
            held += [node.targets[0].id for node in tree.body if isinstance(node, ast.Assign)]
            defined["wherebegun." + path.stem] = set(held)
        for path, node in nodes(ast.ImportFrom):
            self.assertEqual(node.level, 0, path)
            found = {**LIBRARY, **defined}.get(node.module, set())
            self.assertLessEqual({name.name for name in node.names}, found, path)

    def test_barred_statements_and_values(self):
        self.assertEqual(nodes(BARRED_NODES), [])
        for path, node in nodes(ast.Constant):
            self.assertNotIsInstance(node.value, (float, complex), path)
            if isinstance(node.value, str):
                self.assertNotIn("%", node.value, path)

    def test_builtins(self):
        for path, node in nodes(ast.Name):
            if node.id in dir(builtins):
                self.assertIsInstance(node.ctx, ast.Load, (path, node.id))
                self.assertIn(node.id, ALLOWED_BUILTINS, path)

    def test_lists_stand_where_a_generator_may_not(self):
        for path, node in nodes(ast.Call):
            if isinstance(node.func, ast.Name) and node.func.id in ("any", "all", "min", "max", "sum", "sorted"):
                self.assertFalse([part for part in node.args if isinstance(part, ast.GeneratorExp)], path)

    def test_barred_words(self):
        for path, tree in trees():
            told = {id(value) for value in docstrings(tree)}
            for node in ast.walk(tree):
                for name in ("id", "attr", "name", "arg"):
                    self.assertNotRegex(str(getattr(node, name, "")), BARRED_WORDS, path)
                if isinstance(node, ast.Constant) and isinstance(node.value, str) and id(node) not in told:
                    self.assertNotRegex(node.value, BARRED_WORDS, path)


if __name__ == "__main__":
    unittest.main()
