"""The form of the package's files, where a few lines can see it."""

import ast
import builtins
import pathlib
import re
import unittest

PACKAGE = pathlib.Path(__file__).resolve().parent.parent / "sidering"
BARRED = re.compile(
    r"\b(type|typing|typing_extensions|enum|Enum|IntEnum|StrEnum|Flag|IntFlag|Generic|Protocol|ABC|ABCMeta|namedtuple"
    r"|NamedTuple|TypedDict|TYPE_CHECKING|abstractmethod)\b|dataclass|overload|contextmanager"
)
# Whatever reaches a clock, chance or a file is imported or is one of these.
OUTSIDE = {"open", "input", "print", "exec", "eval", "compile", "globals"}
OUTSIDE |= {"id", "hash", "getattr", "vars", "__import__"}


def files():
    return sorted(PACKAGE.rglob("*.py"))


def trees():
    return [(path, ast.parse(path.read_text("ascii"))) for path in files()]


def assigned(tree):
    """The names of functions, parameters and variables in the file, those of Python's own methods aside."""
    nodes = list(ast.walk(tree))
    names = [node.name for node in nodes if isinstance(node, ast.FunctionDef)]
    names += [node.arg for node in nodes if isinstance(node, ast.arg)]
    names += [node.id for node in nodes if isinstance(node, ast.Name) and isinstance(node.ctx, ast.Store)]
    return [name for name in names if not name.endswith("__")]


class TestForm(unittest.TestCase):
    def test_the_folder_contains_only_plain_files(self):
        self.assertTrue((PACKAGE / "__init__.py").is_file())
        for path in PACKAGE.iterdir():
            if path.name != "__pycache__":
                self.assertRegex(path.name, r"^[a-z0-9_]+\.py$")

    def test_characters_and_lengths(self):
        for path in files():
            data = path.read_bytes()
            self.assertTrue(all(byte == 10 or 32 <= byte <= 126 for byte in data), path)
            lines = data.decode("ascii").split("\n")
            self.assertLessEqual(len(lines), 400, path)
            self.assertLessEqual(max(len(line) for line in lines), 120, path)

    def test_words(self):
        for path in files():
            self.assertIsNone(BARRED.search(path.read_text("ascii")), path)

    def test_functions_are_short(self):
        for path, tree in trees():
            for node in ast.walk(tree):
                if isinstance(node, ast.FunctionDef):
                    self.assertLessEqual(node.end_lineno - node.lineno + 1, 40, (path, node.name))

    def test_names(self):
        for path, tree in trees():
            imported = [name.name for node in ast.walk(tree) if isinstance(node, ast.ImportFrom) for name in node.names]
            for name in assigned(tree):
                self.assertRegex(name, r"^[A-Za-z][A-Za-z0-9_]*$", path)
                self.assertFalse(hasattr(builtins, name), (path, name))
                self.assertNotIn(name, imported, path)

    def test_nothing_from_outside(self):
        for path, tree in trees():
            for node in ast.walk(tree):
                self.assertNotIsInstance(node, ast.Import, path)
                if isinstance(node, ast.ImportFrom):
                    self.assertTrue(node.level == 0 and node.module.startswith("sidering."), path)
                if isinstance(node, ast.Name):
                    self.assertNotIn(node.id, OUTSIDE, path)


if __name__ == "__main__":
    unittest.main()
