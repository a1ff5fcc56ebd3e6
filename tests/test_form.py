"""The form of the package's files: the rules of the language that can be seen without running them."""

import ast
import pathlib
import re
import unittest

PACKAGE = pathlib.Path(__file__).resolve().parent.parent / "signsleft"
INTERFACE = {
    "errors": ("SignError", "NoName", "NoRule", "NoPart", "NoText", "NoPage", "Sign", "Away", "Taken", "Barred",
               "Same", "Clash", "TooLong", "NotAway", "Ring", "NoTime", "NoStand", "NoDeed", "NoRow", "Stopped"),
    "names": ("is_name", "name_of", "part_of", "is_of", "moved"),
    "texts": ("pieces", "parts_of", "cut", "named"),
}
BUILTINS = (
    "len range enumerate zip min max sum abs sorted reversed int str bool list tuple dict set isinstance ord repr any "
    "all divmod iter next super ValueError"
).split()
METHODS = (
    "append clear copy count endswith extend find get index insert isalnum isalpha isdigit islower isspace isupper "
    "items join keys ljust lower lstrip partition pop remove replace reverse rfind rjust rpartition rsplit rstrip "
    "setdefault split splitlines startswith strip update upper values zfill bit_length add discard sort"
).split()
BARRED_WORDS = (
    "type typing typing_extensions enum Enum IntEnum StrEnum Flag IntFlag Generic Protocol ABC ABCMeta namedtuple "
    "NamedTuple TypedDict TYPE_CHECKING abstractmethod"
).split()
BARRED_NODES = (ast.Global, ast.AsyncFunctionDef, ast.Await, ast.Import, ast.Div)


def files():
    return sorted(PACKAGE.glob("*.py"))


def nodes(path):
    return list(ast.walk(ast.parse(path.read_text())))


def own_names():
    return {node.name for path in files() for node in nodes(path) if isinstance(node, (ast.FunctionDef, ast.ClassDef))}


class FormTest(unittest.TestCase):
    def test_the_folder_holds_nothing_else(self):
        self.assertIn(PACKAGE / "__init__.py", files())
        for path in PACKAGE.iterdir():
            if path.name != "__pycache__":
                self.assertRegex(path.name, r"\A[a-z0-9_]+\.py\Z")

    def test_sizes_and_signs(self):
        for path in files():
            text = path.read_bytes().decode("ascii")
            self.assertRegex(text, r"\A[ -~\n]*\Z", path.name)
            self.assertNotIn("%", text, path.name)
            rows = text.split("\n")
            self.assertLess(len(rows), 400, path.name)
            for row in rows:
                self.assertLessEqual(len(row), 120, (path.name, row))

    def test_functions_are_short(self):
        for path in files():
            for node in nodes(path):
                if isinstance(node, ast.FunctionDef):
                    self.assertLessEqual(node.end_lineno - node.lineno + 1, 40, (path.name, node.name))

    def test_barred_words(self):
        for path in files():
            text = path.read_text()
            for word in BARRED_WORDS:
                self.assertIsNone(re.search(rf"\b{word}\b", text), (path.name, word))
            for word in ("dataclass", "overload", "contextmanager"):
                self.assertNotIn(word, text, path.name)

    def test_barred_statements_and_names(self):
        for path in files():
            for node in nodes(path):
                self.assertNotIsInstance(node, BARRED_NODES, path.name)
                if isinstance(node, ast.Name):
                    self.assertFalse(node.id.startswith("_"), (path.name, node.id))
                if isinstance(node, ast.Constant):
                    self.assertNotIsInstance(node.value, float, path.name)

    def test_imports_are_the_packages_own(self):
        own = own_names()
        for path in files():
            for node in nodes(path):
                if isinstance(node, ast.ImportFrom):
                    self.assertEqual(node.level, 0, path.name)
                    self.assertRegex(node.module, r"\Asignsleft\.[a-z]+\Z", path.name)
                    for alias in node.names:
                        self.assertIn(alias.name, own, path.name)

    def test_calls(self):
        known = own_names() | set(BUILTINS)
        for path in files():
            for node in nodes(path):
                if isinstance(node, ast.Call) and isinstance(node.func, ast.Name):
                    self.assertIn(node.func.id, known, path.name)
                if isinstance(node, ast.Call) and isinstance(node.func, ast.Attribute):
                    self.assertIn(node.func.attr, own_names() | set(METHODS), path.name)

    def test_the_interface_is_defined_where_it_is_listed(self):
        for module, names in INTERFACE.items():
            body = ast.parse((PACKAGE / f"{module}.py").read_text()).body
            defined = [node.name for node in body if isinstance(node, (ast.FunctionDef, ast.ClassDef))]
            for name in names:
                self.assertEqual(defined.count(name), 1, (module, name))


if __name__ == "__main__":
    unittest.main()
