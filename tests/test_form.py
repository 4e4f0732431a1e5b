"""The part of shared/LANGUAGE.md that can be held against the package's files by a plain look."""

import ast
import pathlib
import re
import unittest

PACKAGE = pathlib.Path(__file__).resolve().parent.parent / "boxlayers"
FILES = sorted(PACKAGE.glob("*.py"))
OWN_NAMES = set(
    "len range enumerate zip min max sum abs sorted reversed int str bool bytes list tuple dict set frozenset "
    "isinstance ord repr any all divmod Exception ValueError TypeError KeyError IndexError LookupError "
    "ZeroDivisionError ArithmeticError OverflowError RuntimeError NotImplementedError AttributeError StopIteration".split())
PYTHONS_NAMES = set(dir(__builtins__) if not isinstance(__builtins__, dict) else __builtins__)
BARRED_WORDS = re.compile(
    r"\b(type|typing|typing_extensions|enum|Enum|IntEnum|StrEnum|Flag|IntFlag|Generic|Protocol|ABC|ABCMeta|namedtuple|"
    r"NamedTuple|TypedDict|TYPE_CHECKING|abstractmethod)\b|dataclass|overload|contextmanager")
BARRED_NODES = (
    ast.With, ast.Match, ast.Global, ast.Nonlocal, ast.Yield, ast.YieldFrom, ast.Await, ast.AsyncFunctionDef,
    ast.AsyncFor, ast.AsyncWith, ast.GeneratorExp, ast.NamedExpr, ast.Div, ast.MatMult, ast.Import,
)
# L25's methods, and the values that L26 bars.
PYTHONS_METHODS = set(
    "append clear copy count endswith extend find get index insert isalnum isalpha isdigit islower isspace isupper items "
    "join keys ljust lower lstrip partition pop remove replace reverse rfind rjust rpartition rsplit rstrip setdefault "
    "split splitlines startswith strip update upper values zfill bit_length sort add discard isascii isdecimal".split())
BARRED_VALUES = set(
    "items keys values pop update append clear extend insert remove reverse setdefault sort args encode decode hex "
    "fromhex format".split())


def nodes(path):
    return list(ast.walk(ast.parse(path.read_text())))


class Form(unittest.TestCase):
    def test_files(self):
        self.assertIn(PACKAGE / "__init__.py", FILES)
        inside = [path for path in PACKAGE.iterdir() if path.name != "__pycache__"]
        self.assertEqual(sorted(inside), FILES)
        for path in FILES:
            self.assertRegex(path.name, r"^(__init__|__main__|[a-z][a-z0-9_]*)\.py$")
            self.assertNotIn(path.stem, PYTHONS_NAMES)

    def test_signs_words_and_sizes(self):
        for path in FILES:
            text = path.read_text(encoding="utf-8")
            self.assertRegex(text, r"\A[\n -~]*\Z", path)
            self.assertIsNone(BARRED_WORDS.search(text), path)
            rows = text.split("\n")
            self.assertLessEqual(len(rows), 400, path)
            self.assertLessEqual(max(len(row) for row in rows), 120, path)
            for node in nodes(path):
                if isinstance(node, ast.FunctionDef):
                    self.assertLessEqual(node.end_lineno - node.lineno + 1, 40, (path, node.name))

    def test_imports(self):
        for path in FILES:
            for node in nodes(path):
                if isinstance(node, ast.ImportFrom):
                    self.assertEqual(node.level, 0, path)
                    self.assertRegex(node.module, r"^boxlayers\.[a-z0-9_]+$", path)
                    source = ast.parse((PACKAGE / (node.module.split(".")[1] + ".py")).read_text())
                    for alias in node.names:
                        self.assertIn(alias.name, self.bound(source), (path, alias.name))

    def bound(self, tree):
        """The names that a file defines itself."""
        names = {node.name for node in tree.body if isinstance(node, (ast.FunctionDef, ast.ClassDef))}
        for node in tree.body:
            if isinstance(node, ast.Assign):
                names |= {target.id for target in node.targets}
        return names

    def test_statements_and_values(self):
        for path in FILES:
            for node in nodes(path):
                at = (path.name, getattr(node, "lineno", None))
                self.assertNotIsInstance(node, BARRED_NODES, at)
                if isinstance(node, ast.Constant):
                    self.assertNotIsInstance(node.value, (float, complex), at)
                if isinstance(node, (ast.FunctionDef, ast.ClassDef)):
                    self.assertEqual(node.decorator_list, [], at)
                if isinstance(node, ast.arguments):
                    self.assertEqual((node.vararg, node.kwarg, node.posonlyargs), (None, None, []), at)
                if isinstance(node, ast.Call):
                    self.assertFalse(any(isinstance(each, ast.Starred) for each in node.args), at)
                if isinstance(node, ast.Compare):
                    for sign, right in zip(node.ops, node.comparators):
                        if isinstance(sign, (ast.Is, ast.IsNot)):
                            self.assertTrue(getattr(right, "value", 0) in (None, True, False), at)

    def test_names(self):
        for path in FILES:
            for node in nodes(path):
                at = (path.name, getattr(node, "lineno", None))
                if isinstance(node, ast.Name) and node.id in PYTHONS_NAMES:
                    self.assertIn(node.id, OWN_NAMES, at)
                    self.assertIsInstance(node.ctx, ast.Load, at)
                if isinstance(node, ast.Name):
                    self.assertNotEqual(node.id[0], "_", at)
                if isinstance(node, ast.arg):
                    self.assertNotIn(node.arg, PYTHONS_NAMES, at)
                    self.assertNotEqual(node.arg[0], "_", at)

    def test_no_name_stands_for_an_import_too(self):
        for path in FILES:
            outer = self.outer_names(path)
            for node in nodes(path):
                at = (path.name, getattr(node, "lineno", None))
                if isinstance(node, ast.Name) and isinstance(node.ctx, ast.Store):
                    self.assertNotIn(node.id, outer, at)
                if isinstance(node, ast.arg):
                    self.assertNotIn(node.arg, outer, at)

    def outer_names(self, path):
        """The names of a file's imports and classes."""
        tree = ast.parse(path.read_text())
        names = {node.name for node in tree.body if isinstance(node, ast.ClassDef)}
        for node in tree.body:
            if isinstance(node, ast.ImportFrom):
                names |= {alias.asname or alias.name for alias in node.names}
        return names

    def test_no_two_files_draw_from_one_another(self):
        drawn = {}
        for path in FILES:
            drawn[path.stem] = {node.module.split(".")[1] for node in nodes(path) if isinstance(node, ast.ImportFrom)}
        while drawn:
            free = [stem for stem in drawn if not drawn[stem] & set(drawn)]
            self.assertNotEqual(free, [], drawn)
            for stem in free:
                del drawn[stem]

    def test_methods_and_values_of_objects(self):
        methods, values, called = set(), set(), []
        for path in FILES:
            for node in nodes(path):
                if isinstance(node, ast.ClassDef):
                    methods |= {each.name for each in node.body if isinstance(each, ast.FunctionDef)}
                if isinstance(node, ast.Attribute) and isinstance(node.ctx, ast.Store):
                    values.add(node.attr)
                if isinstance(node, ast.Call) and isinstance(node.func, ast.Attribute):
                    called.append((node.func.attr, path.name, node.lineno))
        self.assertEqual(methods & values, set())
        self.assertEqual(values & BARRED_VALUES, set())
        for name, file_name, line in called:
            self.assertTrue(name in methods or name in PYTHONS_METHODS, (name, file_name, line))
            # These would have to be walked on the spot.
            self.assertNotIn(name, {"keys", "values"} & methods, (file_name, line))

    def test_sets_stand_where_they_are_used_up(self):
        for path in FILES:
            for node in nodes(path):
                made = isinstance(node, (ast.Set, ast.SetComp))
                made = made or (isinstance(node, ast.Call) and getattr(node.func, "id", "") == "set")
                if made:
                    spot = [each for each in nodes(path) if self.holds(each, node)]
                    self.assertNotEqual(spot, [], (path.name, node.lineno))

    def holds(self, outer, made):
        """Whether outer is a call of sorted or len, or a comparison, right round the set that is made."""
        inner = []
        if isinstance(outer, ast.Call) and getattr(outer.func, "id", "") in ("sorted", "len"):
            inner = outer.args
        if isinstance(outer, ast.Compare):
            inner = [outer.left] + outer.comparators
        return any(ast.dump(each, include_attributes=True) == ast.dump(made, include_attributes=True) for each in inner)


if __name__ == "__main__":
    unittest.main()
