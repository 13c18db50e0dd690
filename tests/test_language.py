"""Those rules of ../shared/LANGUAGE.md that a short test can look after, over the files of the package."""

import ast
import builtins
import pathlib
import re
import unittest

PACKAGE = pathlib.Path(__file__).resolve().parent.parent / "wherebegun"
LIBRARY = {
    "heapq": {"heappush", "heappop", "heapify", "heapreplace", "heappushpop"},
    "math": {"gcd", "lcm", "isqrt", "comb", "perm", "factorial"},
    # Nothing from itertools: the package has an object that is iterated over and has __len__.
}
ALLOWED_BUILTINS = set(
    "len range enumerate zip min max sum abs sorted reversed int str bool bytes list tuple dict set frozenset "
    "isinstance ord repr any all divmod iter next map super property staticmethod classmethod Exception ValueError "
    "TypeError KeyError IndexError LookupError ZeroDivisionError ArithmeticError OverflowError RuntimeError "
    "NotImplementedError AttributeError StopIteration NotImplemented".split())
BARRED_WORDS = re.compile(
    r"\b(type|typing|typing_extensions|enum|Enum|IntEnum|StrEnum|Flag|IntFlag|Generic|Protocol|ABC|ABCMeta|"
    r"namedtuple|NamedTuple|TypedDict|TYPE_CHECKING|abstractmethod|register|mro|elements|open|input|law|eval|exec)\b")
BARRED_NODES = (
    ast.Global, ast.AsyncFunctionDef, ast.AsyncFor, ast.AsyncWith, ast.Await, ast.Import, ast.Div, ast.MatMult,
    ast.TryStar, ast.MatchClass, ast.MatchMapping)


def files():
    return sorted(PACKAGE.rglob("*.py"))


def trees():
    return [(path, ast.parse(path.read_text(encoding="ascii"))) for path in files()]


def nodes(kinds):
    return [(path, node) for path, tree in trees() for node in ast.walk(tree) if isinstance(node, kinds)]


def docstrings(tree):
    holders = [node for node in ast.walk(tree) if isinstance(node, (ast.Module, ast.ClassDef, ast.FunctionDef))]
    return [node.body[0].value for node in holders if ast.get_docstring(node) is not None]


class LanguageTest(unittest.TestCase):
    def test_the_folder_holds_plain_files_only(self):
        self.assertTrue((PACKAGE / "__init__.py").exists())
        for path in PACKAGE.rglob("*"):
            if path.name != "__pycache__" and path.parent.name != "__pycache__":
                self.assertRegex(path.name, r"^(__init__|__main__|[a-z][a-z0-9_]*)\.py$")

    def test_sizes_and_characters(self):
        for path in files():
            text = path.read_bytes().decode("ascii")
            self.assertRegex(text, r"^[\n -~]*\Z", path)
            self.assertLessEqual(len(text.split("\n")), 399, path)
            self.assertLessEqual(max(len(line) for line in text.split("\n")), 120, path)
        for path, node in nodes(ast.FunctionDef):
            self.assertLessEqual(node.end_lineno - node.lineno + 1, 40, (path, node.name))

    def test_imports(self):
        defined = {}
        for path, tree in trees():
            held = [node.name for node in tree.body if isinstance(node, (ast.FunctionDef, ast.ClassDef))]
            held += [node.targets[0].id for node in tree.body if isinstance(node, ast.Assign)]
            defined["wherebegun." + path.stem] = set(held)
        for path, node in nodes(ast.ImportFrom):
            self.assertEqual(node.level, 0, path)
            found = {**LIBRARY, **defined}.get(node.module, set())
            self.assertLessEqual({name.name for name in node.names}, found, path)

    def test_barred_statements_and_values(self):
        self.assertEqual(nodes(BARRED_NODES), [])
        for path, node in nodes(ast.Constant):
            self.assertNotIsInstance(node.value, (float, complex), path)
            if isinstance(node.value, str):
                self.assertNotIn("%", node.value, path)

    def test_builtins(self):
        for path, node in nodes(ast.Name):
            if node.id in dir(builtins):
                self.assertIsInstance(node.ctx, ast.Load, (path, node.id))
                self.assertIn(node.id, ALLOWED_BUILTINS, path)

        for path, node in nodes((ast.arg, ast.FunctionDef, ast.ClassDef)):
            self.assertNotIn(getattr(node, "arg", getattr(node, "name", "")), dir(builtins), path)

    def test_lists_stand_where_a_generator_may_not(self):
        # A list may always stand there, so that there is no need for a generator expression.
        self.assertEqual(nodes(ast.GeneratorExp), [])

    def test_a_name_that_is_imported_is_not_bound_again(self):
        for path, tree in trees():
            imported = {name.name for node in ast.walk(tree) if isinstance(node, ast.ImportFrom) for name in node.names}
            classes = {node.name for node in ast.walk(tree) if isinstance(node, ast.ClassDef)}
            for node in ast.walk(tree):
                if isinstance(node, ast.Name) and isinstance(node.ctx, ast.Store):
                    self.assertNotIn(node.id, imported | classes, path)
                if isinstance(node, ast.arg):
                    self.assertNotIn(node.arg, imported | classes, path)

    def test_attributes_are_neither_methods_nor_properties(self):
        bodies = [node.body for _, node in nodes(ast.ClassDef)]
        methods = {part.name for body in bodies for part in body if isinstance(part, ast.FunctionDef)}
        stored = {node.attr for _, node in nodes(ast.Attribute) if isinstance(node.ctx, ast.Store)}
        self.assertEqual(methods & stored, set())

    def test_generators_are_iterated_at_once(self):
        made = {node.name for _, node in nodes(ast.FunctionDef)
                if any(isinstance(part, (ast.Yield, ast.YieldFrom)) for part in ast.walk(node))}
        for path, tree in trees():
            heads = [node.iter for node in ast.walk(tree) if isinstance(node, (ast.For, ast.comprehension))]
            calls = [node for node in ast.walk(tree) if isinstance(node, ast.Call) and isinstance(node.func, ast.Name)]
            for call in calls:
                if call.func.id in made:
                    self.assertIn(call, heads, path)

    def test_barred_words(self):
        for path, tree in trees():
            told = {id(value) for value in docstrings(tree)}
            for node in ast.walk(tree):
                for name in ("id", "attr", "name", "arg"):
                    self.assertNotRegex(str(getattr(node, name, "")), BARRED_WORDS, path)
                if isinstance(node, ast.Constant) and isinstance(node.value, str) and id(node) not in told:
                    self.assertNotRegex(node.value, BARRED_WORDS, path)


if __name__ == "__main__":
    unittest.main()
