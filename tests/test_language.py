"""The package keeps to the plain rules of its language that can be read off its files."""

import ast
import builtins
import pathlib
import re
import unittest

PACKAGE = pathlib.Path(__file__).resolve().parent.parent / "groupings"
FILES = sorted(PACKAGE.glob("*.py"))
BUILTINS = set(
    "len range enumerate zip min max sum abs sorted reversed int str bool bytes list tuple dict set frozenset isinstance"
    " ord repr any all divmod Exception ValueError TypeError KeyError IndexError LookupError ZeroDivisionError"
    " ArithmeticError OverflowError RuntimeError NotImplementedError AttributeError StopIteration NotImplemented".split()
)
BARRED_WORDS = (
    r"\b(type|typing|typing_extensions|enum|Enum|IntEnum|StrEnum|Flag|IntFlag|Generic|Protocol|ABC|ABCMeta|namedtuple"
    r"|NamedTuple|TypedDict|TYPE_CHECKING|abstractmethod)\b|dataclass|overload|contextmanager"
)
BARRED_STATEMENTS = (ast.Global, ast.AsyncFunctionDef, ast.AsyncFor, ast.AsyncWith, ast.Await, ast.Import, ast.Div)


def named(tree):
    """The names that a file binds at its module level."""
    found = []
    for row in tree.body:
        if isinstance(row, (ast.FunctionDef, ast.ClassDef)):
            found.append(row.name)
        elif isinstance(row, ast.ImportFrom):
            found += [alias.asname or alias.name for alias in row.names]
        elif isinstance(row, ast.Assign):
            found += [target.id for target in row.targets]
    return found


def bound_inside(tree):
    """The parameters and the local variables of a file's functions."""
    assigned = [node.id for node in ast.walk(tree) if isinstance(node, ast.Name) and isinstance(node.ctx, ast.Store)]
    return assigned + [node.arg for node in ast.walk(tree) if isinstance(node, ast.arg)]


class LanguageTest(unittest.TestCase):
    def trees(self):
        return [(file, ast.parse(file.read_text(encoding="ascii"), file.name)) for file in FILES]

    def test_the_folder_has_nothing_but_its_files(self):
        others = [path.name for path in PACKAGE.iterdir() if path not in FILES and path.name != "__pycache__"]
        self.assertEqual(others, [])
        self.assertIn("__init__.py", [file.name for file in FILES])
        for file in FILES:
            self.assertRegex(file.name, r"^(__init__|[a-z][a-z0-9_]*)\.py$")

    def test_characters_and_sizes(self):
        for file, tree in self.trees():
            text = file.read_text(encoding="ascii")
            self.assertRegex(text, r"^[ -~\n]*\Z")
            lines = text.splitlines()
            self.assertLessEqual(len(lines), 400)
            self.assertLessEqual(max([len(line) for line in lines], default=0), 120)
            for node in ast.walk(tree):
                if isinstance(node, ast.FunctionDef):
                    self.assertLessEqual(node.end_lineno - node.lineno + 1, 40, node.name)

    def test_barred_words(self):
        for file, tree in self.trees():
            self.assertIsNone(re.search(BARRED_WORDS, file.read_text(encoding="ascii")), file.name)

    def test_imports_name_the_file_that_defines(self):
        for file, tree in self.trees():
            for row in ast.walk(tree):
                self.assertNotIsInstance(row, BARRED_STATEMENTS)
                if isinstance(row, ast.ImportFrom):
                    self.assertEqual((row.level, row.module.split(".")[0]), (0, "groupings"))
                    source = PACKAGE / (row.module.split(".")[1] + ".py")
                    defined = ast.parse(source.read_text(encoding="ascii"))
                    defined.body = [part for part in defined.body if not isinstance(part, ast.ImportFrom)]
                    for alias in row.names:
                        self.assertIn(alias.name, named(defined))

    def test_one_meaning_for_each_name(self):
        for file, tree in self.trees():
            names = named(tree)
            self.assertEqual(len(set(names)), len(names))
            self.assertEqual((set(names) | set(bound_inside(tree))) & set(dir(builtins)), set())
            taken = [part.name for part in tree.body if isinstance(part, ast.ClassDef)]
            for part in tree.body:
                if isinstance(part, ast.ImportFrom):
                    taken += [alias.asname or alias.name for alias in part.names]
            inside = [name for part in tree.body if not isinstance(part, ast.Assign) for name in bound_inside(part)]
            self.assertEqual(set(inside) & set(taken), set())

    def test_no_other_builtins_and_no_fractions(self):
        for file, tree in self.trees():
            known = set(named(tree)) | set(bound_inside(tree)) | BUILTINS
            for node in ast.walk(tree):
                if isinstance(node, ast.Name):
                    self.assertIn(node.id, known)
                    self.assertFalse(node.id.startswith("_"))
                if isinstance(node, ast.Constant):
                    self.assertNotIsInstance(node.value, (float, complex))


if __name__ == "__main__":
    unittest.main()
