"""The form of the package's files: the rules of the language that can be seen without running them."""

import ast
import builtins
import functools
import importlib
import inspect
import pathlib
import re
import unittest

PACKAGE = pathlib.Path(__file__).resolve().parent.parent / "signsleft"
INTERFACE = {
    "errors": ("SignError", "NoName", "NoRule", "NoPart", "NoText", "NoPage", "Sign", "Away", "Taken", "Barred",
               "Same", "Clash", "TooLong", "NotAway", "Ring", "NoTime", "NoStand", "NoDeed", "NoRow", "Stopped"),
    "names": ("is_name", "name_of", "part_of", "is_of", "moved"),
    "texts": ("pieces", "parts_of", "cut", "named"),
    "sites": ("Site",),
    "deeds": ("done", "deed_row", "read_deed"),
    "judges": ("judged", "replay", "differ", "written", "read_site"),
    "desk": ("Desk",),
}
ARGUMENTS = {
    "names": {"is_name": "thing", "name_of": "thing", "part_of": "thing", "is_of": "name stem",
              "moved": "name stem new"},
    "texts": {"pieces": "text", "parts_of": "text", "cut": "text part", "named": "text"},
    "deeds": {"done": "site deed", "deed_row": "deed", "read_deed": "row"},
    "judges": {"judged": "site deeds", "replay": "deeds", "differ": "site other", "written": "site",
               "read_site": "text"},
    "sites.Site": {
        "time": "", "made": "", "entry": "name at=", "part_sign": "number part at=", "lead": "name part= at=",
        "way": "name part= at=", "write": "name text", "rename": "name new", "part": "name part new",
        "join": "name other",
        "take_away": "name", "bring_back": "name", "put_sign": "name to", "rename_family": "stem new", "straighten": "",
        "renew": "name", "stands": "number", "stand": "number at=", "shows": "number at=", "shows_now": "number at=",
        "standing": "", "stands_now": "number", "called": "number", "text": "number", "backs": "number", "unnamed": "",
        "loose": "", "namers": "name", "bar": "name", "names_to": "number", "story": "name", "tree": "", "deeds": "",
        "was": "at=", "alike": "other",
    },
    "desk.Desk": {"say": "row"},
}
BUILTINS = (
    "len range enumerate zip min max sum abs sorted reversed int str bool list tuple dict set isinstance ord repr any "
    "all divmod iter next super ValueError"
).split()
METHODS = (
    "append clear copy count endswith extend find get index insert isalnum isalpha isdigit islower isspace isupper "
    "items join keys ljust lower lstrip partition pop remove replace reverse rfind rjust rpartition rsplit rstrip "
    "setdefault split splitlines startswith strip update upper values zfill bit_length add discard sort"
).split()
BARRED_WORDS = (
    "type typing typing_extensions enum Enum IntEnum StrEnum Flag IntFlag Generic Protocol ABC ABCMeta namedtuple "
    "NamedTuple TypedDict TYPE_CHECKING abstractmethod"
).split()
BARRED_NODES = (ast.Global, ast.AsyncFunctionDef, ast.Await, ast.Import, ast.Div)


def files():
    return sorted(PACKAGE.glob("*.py"))


@functools.cache
def nodes(path):
    return list(ast.walk(ast.parse(path.read_text())))


def functions(path):
    return [node for node in nodes(path) if isinstance(node, ast.FunctionDef)]


@functools.cache
def own_names():
    return {node.name for path in files() for node in nodes(path) if isinstance(node, (ast.FunctionDef, ast.ClassDef))}


class FormTest(unittest.TestCase):
    def test_the_folder_holds_nothing_else(self):
        self.assertIn(PACKAGE / "__init__.py", files())
        for path in PACKAGE.iterdir():
            if path.name != "__pycache__":
                self.assertRegex(path.name, r"\A[a-z0-9_]+\.py\Z")

    def test_sizes_and_signs(self):
        for path in files():
            text = path.read_bytes().decode("ascii")
            self.assertRegex(text, r"\A[ -~\n]*\Z", path.name)
            self.assertNotIn("%", text, path.name)
            rows = text.split("\n")
            self.assertLess(len(rows), 400, path.name)
            for row in rows:
                self.assertLessEqual(len(row), 120, (path.name, row))

    def test_functions_are_short(self):
        for path in files():
            for node in nodes(path):
                if isinstance(node, ast.FunctionDef):
                    self.assertLessEqual(node.end_lineno - node.lineno + 1, 40, (path.name, node.name))

    def test_barred_words(self):
        for path in files():
            text = path.read_text()
            for word in BARRED_WORDS:
                self.assertIsNone(re.search(rf"\b{word}\b", text), (path.name, word))
            for word in ("dataclass", "overload", "contextmanager"):
                self.assertNotIn(word, text, path.name)

    def test_barred_statements_and_names(self):
        for path in files():
            for node in nodes(path):
                self.assertNotIsInstance(node, BARRED_NODES, path.name)
                if isinstance(node, ast.Name):
                    self.assertFalse(node.id.startswith("_"), (path.name, node.id))
                if isinstance(node, ast.Constant):
                    self.assertNotIsInstance(node.value, float, path.name)

    def test_imports_are_the_packages_own(self):
        own = own_names()
        for path in files():
            for node in nodes(path):
                if isinstance(node, ast.ImportFrom):
                    self.assertEqual(node.level, 0, path.name)
                    self.assertRegex(node.module, r"\Asignsleft\.[a-z]+\Z", path.name)
                    for alias in node.names:
                        self.assertIn(alias.name, own, path.name)

    def test_calls(self):
        known = own_names() | set(BUILTINS)
        for path in files():
            for function in functions(path):
                # A function that a table holds is called by the local name that it was given.
                held = {node.targets[0].id for node in ast.walk(function) if isinstance(node, ast.Assign)
                        and isinstance(node.value, ast.Subscript) and isinstance(node.targets[0], ast.Name)}
                for node in ast.walk(function):
                    if isinstance(node, ast.Call) and isinstance(node.func, ast.Name):
                        self.assertIn(node.func.id, known | held, path.name)
                    if isinstance(node, ast.Call) and isinstance(node.func, ast.Attribute):
                        self.assertIn(node.func.attr, own_names() | set(METHODS), path.name)

    def test_local_names(self):
        taken = set(dir(builtins))
        for path in files():
            imported = {alias.name for node in nodes(path) if isinstance(node, ast.ImportFrom) for alias in node.names}
            classes = {node.name for node in nodes(path) if isinstance(node, ast.ClassDef)}
            bound = {node.id for node in nodes(path) if isinstance(node, ast.Name) and isinstance(node.ctx, ast.Store)}
            bound |= {node.arg for node in nodes(path) if isinstance(node, ast.arg)}
            bound |= {node.name for node in nodes(path) if isinstance(node, ast.MatchAs) and node.name}
            self.assertEqual(bound & (imported | classes | taken), set(), path.name)
            for name in own_names() | bound:
                self.assertTrue(not name.startswith("_") or name == "__init__", (path.name, name))
            self.assertEqual(own_names() & taken, set())

    def test_names_are_bound_once_and_imports_are_used(self):
        for path in files():
            tree = ast.parse(path.read_text())
            bound = [alias.name for node in tree.body if isinstance(node, ast.ImportFrom) for alias in node.names]
            used = {node.id for node in ast.walk(tree) if isinstance(node, ast.Name)}
            self.assertEqual(set(bound) - used, set(), path.name)
            bound += [node.name for node in tree.body if isinstance(node, (ast.FunctionDef, ast.ClassDef))]
            bound += [node.targets[0].id for node in tree.body if isinstance(node, ast.Assign)]
            self.assertEqual(len(bound), len(set(bound)), path.name)
            allowed = (ast.Expr, ast.ImportFrom, ast.FunctionDef, ast.ClassDef, ast.Assign)
            for node in tree.body:
                self.assertIsInstance(node, allowed, path.name)

    def test_no_name_is_a_method_and_an_attribute(self):
        methods, attributes, read = set(), set(), set()
        for path in files():
            for node in nodes(path):
                if isinstance(node, ast.ClassDef):
                    methods |= {one.name for one in node.body if isinstance(one, ast.FunctionDef)}
                if isinstance(node, ast.Attribute):
                    (attributes if isinstance(node.ctx, ast.Store) else read).add(node.attr)
        self.assertEqual(methods & attributes, set())
        self.assertEqual(read - methods - attributes - set(METHODS), set())

    def test_no_two_files_import_from_each_other(self):
        sources = {path.stem: set() for path in files()}
        for path in files():
            for node in nodes(path):
                if isinstance(node, ast.ImportFrom):
                    source = node.module.partition(".")[2]
                    sources[path.stem].add(source)
                    # What is imported is named from the very file that defines it.
                    body = ast.parse((PACKAGE / f"{source}.py").read_text()).body
                    defined = {one.name for one in body if isinstance(one, (ast.FunctionDef, ast.ClassDef))}
                    self.assertEqual({alias.name for alias in node.names} - defined, set(), path.name)
        while sources:
            first = [stem for stem in sources if not sources[stem] & set(sources)]
            self.assertNotEqual(first, [], sources)
            for stem in first:
                del sources[stem]

    def test_handlers_comparisons_and_formats(self):
        refusals = set(INTERFACE["errors"])
        for path in files():
            for node in nodes(path):
                if isinstance(node, ast.ExceptHandler):
                    self.assertIsInstance(node.type, ast.Name, path.name)
                    self.assertIn(node.type.id, refusals, path.name)
                    self.assertIsNone(node.name, path.name)
                if isinstance(node, ast.Raise) and node.exc is not None:
                    self.assertIsInstance(node.exc, ast.Call, path.name)
                    self.assertIn(node.exc.func.id, refusals, path.name)
                if isinstance(node, ast.Compare) and any(isinstance(one, (ast.Is, ast.IsNot)) for one in node.ops):
                    self.assertIsInstance(node.comparators[0], ast.Constant, path.name)
                if isinstance(node, ast.FormattedValue):
                    self.assertIsNone(node.format_spec, path.name)
                self.assertNotIsInstance(node, (ast.Set, ast.GeneratorExp, ast.Yield, ast.NamedExpr, ast.AnnAssign),
                                         path.name)

    def test_the_interface_is_defined_where_it_is_listed(self):
        for module, names in INTERFACE.items():
            body = ast.parse((PACKAGE / f"{module}.py").read_text()).body
            defined = [node.name for node in body if isinstance(node, (ast.FunctionDef, ast.ClassDef))]
            for name in names:
                self.assertEqual(defined.count(name), 1, (module, name))

    def test_the_interface_has_its_methods_and_arguments(self):
        for place, calls in ARGUMENTS.items():
            stem, dot, class_name = place.partition(".")
            module = importlib.import_module(f"signsleft.{stem}")
            holder = getattr(module, class_name) if dot else module
            for name, arguments in calls.items():
                self.assertIn(name, vars(holder), place)
                found = list(inspect.signature(vars(holder)[name]).parameters.values())[1 if dot else 0:]
                told = [one.name + ("" if one.default is inspect.Parameter.empty else "=") for one in found]
                self.assertEqual(told, arguments.split(), (place, name))
                for one in found:
                    self.assertIn(one.default, (inspect.Parameter.empty, None), (place, name))
            if dot:
                self.assertEqual(holder.__bases__, (object,))
                self.assertEqual(len(inspect.signature(holder).parameters), 0)


if __name__ == "__main__":
    unittest.main()
