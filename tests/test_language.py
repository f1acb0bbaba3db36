"""The rules of the language that can be seen file by file, and where the interface has to be defined."""

import ast
import pathlib
import re
import unittest

PACKAGE = pathlib.Path(__file__).resolve().parent.parent / "shownshort"

# What the interface lists for each file; each of them is defined there, with these parameters.
INTERFACE = {
    "errors": {
        "InputError": [], "InvalidNumber": ["value"], "InvalidMark": ["value"], "InvalidText": ["value"],
        "InvalidLength": ["value"], "InvalidRule": ["value"], "InvalidWidth": ["value"], "InvalidPlace": ["value"],
        "InvalidLine": ["value"], "NotANamer": ["value"], "NotAShelf": ["value"], "InvalidRow": ["index"],
        "InvalidViews": ["index"], "InvalidTexts": ["index"], "InvalidDeeds": ["index"], "StateError": [],
        "NothingToUndo": [], "Busy": [], "UnknownName": ["value"], "SizeError": [], "TooMany": ["limit"],
    },
    "shorteners": {
        "Shortener": ["limit", "head", "tail", "mark"], "show": ["row", "text"], "plan": ["row", "length"],
        "widest": ["row"],
    },
}

BARRED_WORDS = (
    "type", "typing", "typing_extensions", "enum", "Enum", "IntEnum", "StrEnum", "Flag", "IntFlag", "Generic",
    "Protocol", "ABC", "ABCMeta", "namedtuple", "NamedTuple", "TypedDict", "TYPE_CHECKING", "abstractmethod",
)
BARRED_ANYWHERE = ("dataclass", "overload", "contextmanager")
ALLOWED_DUNDERS = ("__init__", "__eq__", "__repr__", "__str__", "__len__", "__enter__", "__exit__", "__call__", "__iter__")


def sources():
    return {path.stem: path.read_text(encoding="utf-8") for path in sorted(PACKAGE.glob("*.py"))}


def trees():
    return {name: ast.parse(source) for name, source in sources().items()}


def bound_names(tree):
    for node in ast.walk(tree):
        if isinstance(node, ast.Name) and isinstance(node.ctx, ast.Store):
            yield node.id
        elif isinstance(node, (ast.FunctionDef, ast.ClassDef)):
            yield node.name
        elif isinstance(node, ast.arg):
            yield node.arg
        elif isinstance(node, ast.Attribute):
            yield node.attr


def parameters(node):
    if isinstance(node, ast.ClassDef):
        inits = [part for part in node.body if isinstance(part, ast.FunctionDef) and part.name == "__init__"]
        return parameters(inits[0])[1:] if inits else []
    return [argument.arg for argument in node.args.args]


class FilesTest(unittest.TestCase):
    def test_only_plain_files(self):
        found = [path.name for path in PACKAGE.iterdir() if path.name != "__pycache__"]
        self.assertIn("__init__.py", found)
        for name in found:
            self.assertRegex(name, r"\A(__init__|__main__|[a-z][a-z0-9_]*)\.py\Z")

    def test_size_and_characters(self):
        for name, source in sources().items():
            with self.subTest(name):
                self.assertRegex(source, r"\A[\n -~]*\Z")
                self.assertLessEqual(len(source.splitlines()), 399)
                self.assertLessEqual(max(len(line) for line in source.splitlines()), 120)

    def test_barred_words(self):
        for name, source in sources().items():
            with self.subTest(name):
                self.assertEqual(set(re.findall(r"\w+", source)) & set(BARRED_WORDS), set())
                for word in BARRED_ANYWHERE:
                    self.assertNotIn(word, source)


class CodeTest(unittest.TestCase):
    def test_size_of_functions(self):
        for name, tree in trees().items():
            for node in ast.walk(tree):
                if isinstance(node, ast.FunctionDef):
                    with self.subTest(name, function=node.name):
                        self.assertLessEqual(node.end_lineno - node.lineno + 1, 40)

    def test_imports_name_the_file_that_defines_the_name(self):
        package = trees()
        for name, tree in package.items():
            for node in ast.walk(tree):
                self.assertNotIsInstance(node, ast.Import)
                if isinstance(node, ast.ImportFrom):
                    with self.subTest(name, module=node.module):
                        self.assertEqual(node.level, 0)
                        folder, _, module = node.module.partition(".")
                        self.assertEqual(folder, "shownshort")
                        defined = {top.name for top in package[module].body if hasattr(top, "name")}
                        defined |= {top.targets[0].id for top in package[module].body if isinstance(top, ast.Assign)}
                        self.assertLessEqual({alias.name for alias in node.names}, defined)

    def test_plain_names(self):
        for name, tree in trees().items():
            for bound in bound_names(tree):
                with self.subTest(name, bound=bound):
                    self.assertTrue(bound in ALLOWED_DUNDERS or not bound.startswith("_"))

    def test_no_floats_and_no_division(self):
        for name, tree in trees().items():
            for node in ast.walk(tree):
                with self.subTest(name, line=getattr(node, "lineno", 0)):
                    self.assertNotIsInstance(node, ast.Div)
                    if isinstance(node, ast.Constant):
                        self.assertNotIsInstance(node.value, (float, complex))


class InterfaceTest(unittest.TestCase):
    def test_defined_in_its_file_with_its_parameters(self):
        package = trees()
        for module, listed in INTERFACE.items():
            tops = [top for top in package[module].body if isinstance(top, (ast.FunctionDef, ast.ClassDef))]
            defined = {top.name: parameters(top) for top in tops}
            for name, expected in listed.items():
                with self.subTest(module, name=name):
                    self.assertIn(name, defined)
                    self.assertEqual(defined[name], expected)


if __name__ == "__main__":
    unittest.main()
