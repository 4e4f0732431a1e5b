"""The part of shared/LANGUAGE.md that can be held against the package's files by a plain look."""

import ast
import pathlib
import re
import unittest

PACKAGE = pathlib.Path(__file__).resolve().parent.parent / "boxlayers"
FILES = sorted(PACKAGE.glob("*.py"))
OWN_NAMES = set(
    "len range enumerate zip min max sum abs sorted reversed int str bool bytes list tuple dict set frozenset "
    "isinstance ord repr any all divmod Exception ValueError TypeError KeyError IndexError LookupError "
    "ZeroDivisionError ArithmeticError OverflowError RuntimeError NotImplementedError AttributeError StopIteration".split())
PYTHONS_NAMES = set(dir(__builtins__) if not isinstance(__builtins__, dict) else __builtins__)
BARRED_WORDS = re.compile(
    r"\b(type|typing|typing_extensions|enum|Enum|IntEnum|StrEnum|Flag|IntFlag|Generic|Protocol|ABC|ABCMeta|namedtuple|"
    r"NamedTuple|TypedDict|TYPE_CHECKING|abstractmethod)\b|dataclass|overload|contextmanager")
BARRED_NODES = (
    ast.With, ast.Match, ast.Global, ast.Nonlocal, ast.Yield, ast.YieldFrom, ast.Await, ast.AsyncFunctionDef,
    ast.AsyncFor, ast.AsyncWith, ast.GeneratorExp, ast.NamedExpr, ast.Div, ast.MatMult, ast.Import,
)


def nodes(path):
    return list(ast.walk(ast.parse(path.read_text())))


class Form(unittest.TestCase):
    def test_files(self):
        self.assertIn(PACKAGE / "__init__.py", FILES)
        inside = [path for path in PACKAGE.iterdir() if path.name != "__pycache__"]
        self.assertEqual(sorted(inside), FILES)
        for path in FILES:
            self.assertRegex(path.name, r"^(__init__|__main__|[a-z][a-z0-9_]*)\.py$")
            self.assertNotIn(path.stem, PYTHONS_NAMES)

    def test_signs_words_and_sizes(self):
        for path in FILES:
            text = path.read_text(encoding="utf-8")
            self.assertRegex(text, r"\A[\n -~]*\Z", path)
            self.assertIsNone(BARRED_WORDS.search(text), path)
            rows = text.split("\n")
            self.assertLessEqual(len(rows), 400, path)
            self.assertLessEqual(max(len(row) for row in rows), 120, path)
            for node in nodes(path):
                if isinstance(node, ast.FunctionDef):
                    self.assertLessEqual(node.end_lineno - node.lineno + 1, 40, (path, node.name))

    def test_imports(self):
        for path in FILES:
            for node in nodes(path):
                if isinstance(node, ast.ImportFrom):
                    self.assertEqual(node.level, 0, path)
                    self.assertRegex(node.module, r"^boxlayers\.[a-z0-9_]+$", path)
                    source = ast.parse((PACKAGE / (node.module.split(".")[1] + ".py")).read_text())
                    for alias in node.names:
                        self.assertIn(alias.name, self.bound(source), (path, alias.name))

    def bound(self, tree):
        """The names that a file defines itself."""
        names = {node.name for node in tree.body if isinstance(node, (ast.FunctionDef, ast.ClassDef))}
        for node in tree.body:
            if isinstance(node, ast.Assign):
                names |= {target.id for target in node.targets}
        return names

    def test_statements_and_values(self):
        for path in FILES:
            for node in nodes(path):
                at = (path.name, getattr(node, "lineno", None))
                self.assertNotIsInstance(node, BARRED_NODES, at)
                if isinstance(node, ast.Constant):
                    self.assertNotIsInstance(node.value, (float, complex), at)
                if isinstance(node, (ast.FunctionDef, ast.ClassDef)):
                    self.assertEqual(node.decorator_list, [], at)
                if isinstance(node, ast.arguments):
                    self.assertEqual((node.vararg, node.kwarg, node.posonlyargs), (None, None, []), at)
                if isinstance(node, ast.Call):
                    self.assertFalse(any(isinstance(each, ast.Starred) for each in node.args), at)
                if isinstance(node, ast.Compare):
                    for sign, right in zip(node.ops, node.comparators):
                        if isinstance(sign, (ast.Is, ast.IsNot)):
                            self.assertTrue(getattr(right, "value", 0) in (None, True, False), at)

    def test_names(self):
        for path in FILES:
            for node in nodes(path):
                at = (path.name, getattr(node, "lineno", None))
                if isinstance(node, ast.Name) and node.id in PYTHONS_NAMES:
                    self.assertIn(node.id, OWN_NAMES, at)
                    self.assertIsInstance(node.ctx, ast.Load, at)
                if isinstance(node, ast.Name):
                    self.assertNotEqual(node.id[0], "_", at)
                if isinstance(node, ast.arg):
                    self.assertNotIn(node.arg, PYTHONS_NAMES, at)
                    self.assertNotEqual(node.arg[0], "_", at)


if __name__ == "__main__":
    unittest.main()
