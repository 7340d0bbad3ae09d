"""A part of ../shared/LANGUAGE.md that is easy to look at: files, imports, builtins, sizes, names and words."""

import ast
import builtins
import pathlib
import re
import unittest

PACKAGE = pathlib.Path(__file__).resolve().parent.parent / "timesrow"
BUILTINS = set("""len range enumerate zip min max sum abs sorted reversed int str bool bytes list tuple dict set frozenset
    isinstance ord repr any all divmod iter next super property staticmethod classmethod Exception ValueError TypeError
    KeyError IndexError LookupError ZeroDivisionError ArithmeticError OverflowError RuntimeError NotImplementedError
    AttributeError StopIteration NotImplemented""".split())
WORDS = re.compile(r"\b(type|typing|typing_extensions|enum|Enum|IntEnum|StrEnum|Flag|IntFlag|Generic|Protocol|ABC|ABCMeta"
                   r"|namedtuple|NamedTuple|TypedDict|TYPE_CHECKING|abstractmethod)\b"
                   r"|dataclass|overload|contextmanager")
BARRED = (ast.Global, ast.Import, ast.AsyncFunctionDef, ast.Await, ast.Div)


def files():
    return sorted(path for path in PACKAGE.rglob("*.py"))


def bound_names(tree):
    for node in ast.walk(tree):
        if isinstance(node, (ast.FunctionDef, ast.ClassDef)):
            yield node.name
        if isinstance(node, ast.arg):
            yield node.arg
        if isinstance(node, ast.Name) and isinstance(node.ctx, ast.Store):
            yield node.id


class Form(unittest.TestCase):
    def test_the_folder_holds_modules_only(self):
        for path in PACKAGE.rglob("*"):
            if "__pycache__" in path.parts:
                continue
            if path.is_dir():
                self.assertTrue((path / "__init__.py").is_file(), path)
            self.assertRegex(path.name, r"\A[a-z0-9_]+(\.py)?\Z")
            self.assertTrue(path.is_dir() or path.suffix == ".py", path)
        self.assertTrue((PACKAGE / "__init__.py").is_file())

    def test_signs_words_and_sizes(self):
        for path in files():
            text = path.read_text(encoding="utf-8")
            self.assertRegex(text, r"\A[ -~\n]*\Z", path)
            self.assertIsNone(WORDS.search(text), path)
            self.assertLessEqual(len(text.splitlines()), 400, path)
            self.assertLessEqual(max([len(line) for line in text.splitlines()], default=0), 120, path)

    def test_functions_are_short_and_plain(self):
        for path in files():
            for node in ast.walk(ast.parse(path.read_text())):
                self.assertNotIsInstance(node, BARRED, path)
                if isinstance(node, ast.FunctionDef):
                    self.assertLessEqual(node.end_lineno - node.lineno + 1, 40, (path, node.name))
                if isinstance(node, ast.Constant):
                    self.assertNotIsInstance(node.value, (float, complex), path)
                    self.assertNotIn("%", str(node.value), path)

    def test_imports_are_from_the_package(self):
        for path in files():
            for node in ast.walk(ast.parse(path.read_text())):
                if isinstance(node, ast.ImportFrom):
                    self.assertEqual(node.level, 0, path)
                    self.assertEqual(node.module.split(".")[0], "timesrow", path)
                    self.assertNotIn("*", [name.name for name in node.names], path)

    def test_names(self):
        for path in files():
            tree = ast.parse(path.read_text())
            for name in bound_names(tree):
                if name != "__init__":
                    self.assertFalse(name.startswith("_"), (path, name))
                    self.assertFalse(hasattr(builtins, name), (path, name))
            for node in ast.walk(tree):
                if isinstance(node, ast.Name) and hasattr(builtins, node.id):
                    self.assertIn(node.id, BUILTINS, path)


if __name__ == "__main__":
    unittest.main()
