"""The package keeps to the plain rules of its language that can be read off its files."""

import ast
import builtins
import pathlib
import re
import unittest

PACKAGE = pathlib.Path(__file__).resolve().parent.parent / "groupings"
FILES = sorted(PACKAGE.glob("*.py"))
BUILTINS = set(
    "len range enumerate zip min max sum abs sorted reversed int str bool bytes list tuple dict set frozenset isinstance"
    " ord repr any all divmod Exception ValueError TypeError KeyError IndexError LookupError ZeroDivisionError"
    " ArithmeticError OverflowError RuntimeError NotImplementedError AttributeError StopIteration NotImplemented".split()
)
BARRED_WORDS = (
    r"\b(type|typing|typing_extensions|enum|Enum|IntEnum|StrEnum|Flag|IntFlag|Generic|Protocol|ABC|ABCMeta|namedtuple"
    r"|NamedTuple|TypedDict|TYPE_CHECKING|abstractmethod)\b|dataclass|overload|contextmanager"
)
BARRED_STATEMENTS = (ast.Global, ast.AsyncFunctionDef, ast.AsyncFor, ast.AsyncWith, ast.Await, ast.Import, ast.Div)
METHODS = set(
    "append clear copy count endswith extend find get index insert items join keys pop remove replace reverse setdefault"
    " split startswith strip update values add discard".split()
)
BARRED_NAMES = set(
    "register mro elements open input version_info with_traceback add_note breakpoint builtins compile delattr dir eval"
    " exec exit gc getattr globals hasattr help id importlib locals os quit setattr super type vars sys".split()
)


def named(tree):
    """The names that a file binds at its module level."""
    found = []
    for row in tree.body:
        if isinstance(row, (ast.FunctionDef, ast.ClassDef)):
            found.append(row.name)
        elif isinstance(row, ast.ImportFrom):
            found += [alias.asname or alias.name for alias in row.names]
        elif isinstance(row, ast.Assign):
            found += [target.id for target in row.targets]
    return found


def bound_inside(tree):
    """The parameters and the local variables of a file's functions."""
    assigned = [node.id for node in ast.walk(tree) if isinstance(node, ast.Name) and isinstance(node.ctx, ast.Store)]
    return assigned + [node.arg for node in ast.walk(tree) if isinstance(node, ast.arg)]


class LanguageTest(unittest.TestCase):
    def trees(self):
        return [(file, ast.parse(file.read_text(encoding="ascii"), file.name)) for file in FILES]

    def test_the_folder_has_nothing_but_its_files(self):
        others = [path.name for path in PACKAGE.iterdir() if path not in FILES and path.name != "__pycache__"]
        self.assertEqual(others, [])
        self.assertIn("__init__.py", [file.name for file in FILES])
        for file in FILES:
            self.assertRegex(file.name, r"^(__init__|[a-z][a-z0-9_]*)\.py$")

    def test_characters_and_sizes(self):
        for file, tree in self.trees():
            text = file.read_text(encoding="ascii")
            self.assertRegex(text, r"^[ -~\n]*\Z")
            lines = text.splitlines()
            self.assertLessEqual(len(lines), 400)
            self.assertLessEqual(max([len(line) for line in lines], default=0), 120)
            for node in ast.walk(tree):
                if isinstance(node, ast.FunctionDef):
                    self.assertLessEqual(node.end_lineno - node.lineno + 1, 40, node.name)

    def test_barred_words(self):
        for file, tree in self.trees():
            self.assertIsNone(re.search(BARRED_WORDS, file.read_text(encoding="ascii")), file.name)

    def test_imports_name_the_file_that_defines(self):
        for file, tree in self.trees():
            for row in ast.walk(tree):
                self.assertNotIsInstance(row, BARRED_STATEMENTS)
                if isinstance(row, ast.ImportFrom):
                    self.assertEqual((row.level, row.module.split(".")[0]), (0, "groupings"))
                    source = PACKAGE / (row.module.split(".")[1] + ".py")
                    defined = ast.parse(source.read_text(encoding="ascii"))
                    defined.body = [part for part in defined.body if not isinstance(part, ast.ImportFrom)]
                    for alias in row.names:
                        self.assertIn(alias.name, named(defined))

    def test_one_meaning_for_each_name(self):
        for file, tree in self.trees():
            names = named(tree)
            self.assertEqual(len(set(names)), len(names))
            self.assertEqual((set(names) | set(bound_inside(tree))) & set(dir(builtins)), set())
            taken = [part.name for part in tree.body if isinstance(part, ast.ClassDef)]
            for part in tree.body:
                if isinstance(part, ast.ImportFrom):
                    taken += [alias.asname or alias.name for alias in part.names]
            inside = [name for part in tree.body if not isinstance(part, ast.Assign) for name in bound_inside(part)]
            self.assertEqual(set(inside) & set(taken), set())

    def test_no_other_builtins_and_no_fractions(self):
        for file, tree in self.trees():
            known = set(named(tree)) | set(bound_inside(tree)) | BUILTINS
            for node in ast.walk(tree):
                if isinstance(node, ast.Name):
                    self.assertIn(node.id, known)
                    self.assertFalse(node.id.startswith("_"))
                if isinstance(node, ast.Constant):
                    self.assertNotIsInstance(node.value, (float, complex))

    def test_module_level_has_only_what_is_defined(self):
        for file, tree in self.trees():
            for row in tree.body:
                self.assertIsInstance(row, (ast.ImportFrom, ast.FunctionDef, ast.ClassDef, ast.Assign, ast.Expr))
                if isinstance(row, (ast.Assign, ast.Expr)):
                    self.assertIsInstance(row.value, ast.Constant)

    def test_own_methods_and_attributes_have_names_of_their_own(self):
        nodes = [node for file, tree in self.trees() for node in ast.walk(tree)]
        bodies = [part for node in nodes if isinstance(node, ast.ClassDef) for part in node.body]
        methods = {part.name for part in bodies if isinstance(part, ast.FunctionDef)} - {"__init__"}
        found = [node for node in nodes if isinstance(node, ast.Attribute)]
        attributes = {node.attr for node in found if isinstance(node.ctx, ast.Store)}
        self.assertEqual(methods & attributes, set())
        self.assertEqual({node.attr for node in found} - attributes - methods - METHODS, set())
        for taken in (str, int, list, dict, tuple, bytes, set, BaseException):
            self.assertEqual((methods | attributes) & set(dir(taken)), set())

    def test_barred_names(self):
        for file, tree in self.trees():
            for node in ast.walk(tree):
                for name in (getattr(node, "id", None), getattr(node, "attr", None), getattr(node, "arg", None),
                             getattr(node, "name", None)):
                    if name is not None and name != "__init__":
                        self.assertNotIn(name, BARRED_NAMES)
                        self.assertRegex(name, r"^[A-Za-z][A-Za-z0-9_]*$")

    def test_no_powers_decorators_or_signs_in_strings(self):
        for file, tree in self.trees():
            for node in ast.walk(tree):
                self.assertNotIsInstance(node, (ast.Pow, ast.Try, ast.Starred, ast.NamedExpr))
                self.assertEqual(getattr(node, "decorator_list", []), [])
                if isinstance(node, ast.Constant) and isinstance(node.value, str):
                    self.assertNotIn("%", node.value)
                if isinstance(node, ast.Compare) and any(isinstance(sign, (ast.Is, ast.IsNot)) for sign in node.ops):
                    self.assertIn(node.comparators[0].value, (None, True, False))

    def test_no_loop_changes_what_it_goes_through(self):
        for file, tree in self.trees():
            for loop in ast.walk(tree):
                if isinstance(loop, ast.For):
                    gone_through = {ast.unparse(node) for node in ast.walk(loop.iter)
                                    if isinstance(node, (ast.Name, ast.Attribute))} - BUILTINS - {"self"}
                    for node in [part for row in loop.body for part in ast.walk(row)]:
                        if isinstance(node, ast.Subscript) and isinstance(node.ctx, ast.Store):
                            self.assertNotIn(ast.unparse(node.value), gone_through, file.name)
                        if isinstance(node, ast.Attribute) and node.attr in METHODS - {"index", "count", "get"}:
                            self.assertNotIn(ast.unparse(node.value), gone_through, file.name)


if __name__ == "__main__":
    unittest.main()
