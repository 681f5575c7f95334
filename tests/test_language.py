"""The rules of the language that can be seen from the code alone, file by file; not all of them."""

import ast
import builtins
import pathlib
import re
import unittest

PACKAGE = pathlib.Path(__file__).parent.parent / "hearkenway"
FILES = sorted(PACKAGE.glob("*.py"))

BUILTINS = set(
    "len range enumerate zip min max sum abs sorted reversed int str bool bytes list tuple dict set frozenset"
    " isinstance ord repr any all divmod Exception ValueError TypeError KeyError IndexError LookupError"
    " ZeroDivisionError ArithmeticError OverflowError RuntimeError NotImplementedError AttributeError StopIteration"
    " NotImplemented iter next super property staticmethod classmethod".split()
)
METHODS = set(
    "append clear copy count endswith extend find get index insert isalnum isalpha isdigit islower isspace isupper"
    " items join keys ljust lower lstrip partition pop remove replace reverse rfind rjust rpartition rsplit rstrip"
    " setdefault split splitlines startswith strip update upper values zfill bit_length add discard sort".split()
)
BARRED_WORDS = set(
    "type typing typing_extensions enum Enum IntEnum StrEnum Flag IntFlag Generic Protocol ABC ABCMeta namedtuple"
    " NamedTuple TypedDict TYPE_CHECKING abstractmethod".split()
)
BARRED_PARTS = ("dataclass", "overload", "contextmanager")
BARRED_NAMES = set("register mro elements open input law version_info with_traceback add_note".split())


def bound_names(tree):
    """Each name that a file gives to something."""
    for part in ast.walk(tree):
        if isinstance(part, ast.Name) and isinstance(part.ctx, ast.Store):
            yield part.id
        elif isinstance(part, (ast.FunctionDef, ast.ClassDef)):
            yield part.name
        elif isinstance(part, ast.arg):
            yield part.arg
        elif isinstance(part, ast.Attribute) and isinstance(part.ctx, ast.Store):
            yield part.attr


def read_files():
    """The name, text and syntax tree of each file."""
    texts = [(path.name, path.read_text(encoding="ascii")) for path in FILES]
    return [(name, text, ast.parse(text)) for name, text in texts]


def top_name(part):
    """The name that a statement at module level gives to something, or None."""
    if isinstance(part, (ast.FunctionDef, ast.ClassDef)):
        return part.name
    return part.targets[0].id if isinstance(part, ast.Assign) else None


def method_names():
    """The names of all methods of the package."""
    return {
        part.name
        for name, text, tree in read_files()
        for owner in ast.walk(tree)
        if isinstance(owner, ast.ClassDef)
        for part in owner.body
        if isinstance(part, ast.FunctionDef)
    }


def imported_names(tree):
    return {name.name for part in tree.body if isinstance(part, ast.ImportFrom) for name in part.names}


class LanguageTest(unittest.TestCase):
    def test_the_folder_holds_plain_files_only(self):
        for path in PACKAGE.iterdir():
            if path.name != "__pycache__":
                self.assertRegex(path.name, r"^([a-z][a-z0-9_]*|__init__|__main__)\.py$")

    def test_sizes_and_characters(self):
        for name, text, tree in read_files():
            with self.subTest(name):
                lines = text.split("\n")
                self.assertLessEqual(len(lines), 399)
                self.assertTrue(all(len(line) <= 120 for line in lines))
                self.assertRegex(text, r"\A[ -~\n]*\Z")
                for part in ast.walk(tree):
                    if isinstance(part, ast.FunctionDef):
                        self.assertLessEqual(part.end_lineno - part.lineno + 1, 40, part.name)

    def test_words_and_names(self):
        for name, text, tree in read_files():
            with self.subTest(name):
                self.assertEqual(set(re.findall(r"\w+", text)) & BARRED_WORDS, set())
                self.assertFalse(any(part in text for part in BARRED_PARTS))
                for bound in bound_names(tree):
                    if not re.fullmatch(r"__[a-z]+__", bound):
                        self.assertRegex(bound, r"^[A-Za-z][A-Za-z0-9_]*$")
                    self.assertNotIn(bound, BARRED_NAMES)

    def test_imports_are_from_the_package_at_the_top(self):
        for name, text, tree in read_files():
            with self.subTest(name):
                for part in ast.walk(tree):
                    self.assertNotIsInstance(part, ast.Import)
                    if isinstance(part, ast.ImportFrom):
                        self.assertIn(part, tree.body)
                        self.assertEqual(part.level, 0)
                        self.assertRegex(part.module, r"^hearkenway\.")
                        self.assertIn(PACKAGE / f"{part.module.split('.')[1]}.py", FILES)

    def test_no_files_import_each_other(self):
        above = {
            name[:-3]: {part.module.split(".")[1] for part in tree.body if isinstance(part, ast.ImportFrom)}
            for name, text, tree in read_files()
        }
        while any(not imported for imported in above.values()):
            done = {name for name, imported in above.items() if not imported}
            above = {name: imported - done for name, imported in above.items() if name not in done}
        self.assertEqual(above, {})

    def test_imports_are_from_the_file_that_defines_the_name_and_are_used(self):
        defined = {name[:-3]: {top_name(part) for part in tree.body} for name, text, tree in read_files()}
        for name, text, tree in read_files():
            used = {part.id for part in ast.walk(tree) if isinstance(part, ast.Name)}
            for part in tree.body:
                if isinstance(part, ast.ImportFrom):
                    names = {imported.name for imported in part.names}
                    self.assertLessEqual(names, defined[part.module.split(".")[1]], name)
                    self.assertLessEqual(names, used, name)

    def test_no_name_of_an_import_or_a_builtin_means_something_else(self):
        for name, text, tree in read_files():
            with self.subTest(name):
                names = set(bound_names(tree))
                self.assertEqual(names & imported_names(tree), set())
                self.assertEqual(names & set(dir(builtins)), set())

    def test_builtins_and_methods_are_the_allowed_ones(self):
        for name, text, tree in read_files():
            with self.subTest(name):
                own = set(bound_names(tree)) | imported_names(tree) | method_names()
                for part in ast.walk(tree):
                    if isinstance(part, ast.Name) and part.id not in own:
                        self.assertIn(part.id, BUILTINS)
                    if isinstance(part, ast.Call) and isinstance(part.func, ast.Attribute):
                        self.assertIn(part.func.attr, METHODS | own)

    def test_no_name_is_both_a_method_and_an_attribute(self):
        stored = set()
        read = set()
        for name, text, tree in read_files():
            called = {id(part.func) for part in ast.walk(tree) if isinstance(part, ast.Call)}
            for part in ast.walk(tree):
                if isinstance(part, ast.Attribute) and isinstance(part.ctx, ast.Store):
                    stored.add(part.attr)
                elif isinstance(part, ast.Attribute) and id(part) not in called:
                    read.add(part.attr)
        self.assertEqual(stored & method_names(), set())
        self.assertEqual(stored & METHODS, set())
        self.assertEqual(read - stored, set())

    def test_expressions(self):
        barred = (ast.Div, ast.Global, ast.AsyncFunctionDef, ast.Await)
        for name, text, tree in read_files():
            with self.subTest(name):
                for part in ast.walk(tree):
                    self.assertNotIsInstance(part, barred)
                    if isinstance(part, ast.Constant):
                        self.assertNotIsInstance(part.value, (float, complex))
                        self.assertNotIn("%", str(part.value))
                    if isinstance(part, ast.Compare) and isinstance(part.ops[0], (ast.Is, ast.IsNot)):
                        self.assertIsInstance(part.comparators[0], ast.Constant)
                        self.assertIn(part.comparators[0].value, (None, True, False))
