"""The rules of the language that can be seen file by file, and where the interface has to be defined."""

import ast
import builtins
import pathlib
import re
import unittest

PACKAGE = pathlib.Path(__file__).resolve().parent.parent / "shownshort"

# What the interface lists for each file; each of them is defined there, with these parameters.
INTERFACE = {
    "errors": {
        "InputError": [], "InvalidNumber": ["value"], "InvalidMark": ["value"], "InvalidText": ["value"],
        "InvalidLength": ["value"], "InvalidRule": ["value"], "InvalidWidth": ["value"], "InvalidPlace": ["value"],
        "InvalidLine": ["value"], "NotANamer": ["value"], "NotAShelf": ["value"], "InvalidRow": ["index"],
        "InvalidViews": ["index"], "InvalidTexts": ["index"], "InvalidDeeds": ["index"], "StateError": [],
        "NothingToUndo": [], "Busy": [], "UnknownName": ["value"], "SizeError": [], "TooMany": ["limit"],
    },
    "shorteners": {
        "Shortener": ["limit", "head", "tail", "mark"], "show": ["row", "text"], "plan": ["row", "length"],
        "widest": ["row"],
    },
    "samples": {"sample_row": [], "sample_namer": []},
    "alike": {
        "first_unlike": ["row", "other_row"], "are_alike": ["row", "other_row"], "first_unstable": ["row"],
        "is_stable": ["row"],
    },
    "views": {
        "lengths": ["views"], "signs": ["views", "length"], "number_of": ["views", "length"], "only_text": ["views"],
        "least_text": ["views"],
    },
    "pairs": {"least_pair": ["row"], "number_shown": ["row", "length"]},
    "lists": {
        "member": ["kind", "mark", "width"], "groups": ["row", "texts"], "tells_apart": ["row", "texts"],
        "widths": ["kind", "mark", "texts"], "narrowest": ["kind", "mark", "texts"], "fitting": ["mark", "seen"],
    },
    "names": {
        "Namer": ["rule", "width"], "names": ["namer", "texts"], "meeting": ["namer", "texts"],
        "possible_names": ["namer", "texts", "place"],
    },
    "shelves": {"Shelf": ["namer"], "within": ["trial", "act"], "attempt": ["shelf", "act"]},
    "checker": {"holds": ["claim", "paper"]},
    "certificates": {
        "certify_alike": ["row", "other_row"], "certify_stable": ["row"], "certify_possible": ["row", "shown", "length"],
        "certify_confused": ["row"],
    },
    "reports": {"plan_table": ["row", "most"], "view_report": ["views"]},
    "console": {"Console": ["namer"]},
}
# What the interface lists for each class; each of them stands in the class itself.
METHODS_OF = {
    ("shorteners", "Shortener"): {"__eq__": ["other"], "__repr__": []},
    ("names", "Namer"): {"__eq__": ["other"], "__repr__": []},
    ("shelves", "Shelf"): {
        "add": ["text"], "remove": ["name"], "do_all": ["*deeds", "watch"], "undo": [], "trial": [], "__len__": [],
        "__repr__": [],
    },
    ("console", "Console"): {"say": ["line"]},
}

BARRED_WORDS = (
    "type", "typing", "typing_extensions", "enum", "Enum", "IntEnum", "StrEnum", "Flag", "IntFlag", "Generic",
    "Protocol", "ABC", "ABCMeta", "namedtuple", "NamedTuple", "TypedDict", "TYPE_CHECKING", "abstractmethod",
)
BARRED_ANYWHERE = ("dataclass", "overload", "contextmanager")
# L8, without `chr` (L27), and `print`, which only `__main__.py` may use.
BUILTINS = set(
    "len range enumerate zip min max sum abs sorted reversed int str bool bytes list tuple dict set frozenset isinstance ord"
    " repr any all divmod Exception ValueError TypeError KeyError IndexError LookupError ZeroDivisionError ArithmeticError"
    " OverflowError RuntimeError NotImplementedError AttributeError StopIteration NotImplemented iter next super property"
    " staticmethod classmethod object".split()
)
# The first list of L25, without those of bytes.
METHODS = set(
    "append clear copy count endswith extend find get index insert isalnum isalpha isdigit islower isspace isupper items join"
    " keys ljust lower lstrip partition pop remove replace reverse rfind rjust rpartition rsplit rstrip setdefault split"
    " splitlines startswith strip update upper values zfill bit_length".split()
)
# L17: what no name of any kind is, and what no variable, function, class or method is.
NEVER_NAMES = set("register mro elements open input law version_info with_traceback add_note".split())
NOT_NAMES = set(
    "attrgetter breakpoint builtins compile copyright credits delattr dir eval exec exit gc getattr globals hasattr help id"
    " importlib license locals methodcaller os quit setattr super type vars sys".split()
)
BARRED_NODES = (
    ast.Global, ast.AsyncFunctionDef, ast.AsyncFor, ast.AsyncWith, ast.Await, ast.Import, ast.MatMult,
)
ALLOWED_DUNDERS = ("__init__", "__eq__", "__repr__", "__str__", "__len__", "__enter__", "__exit__", "__call__", "__iter__")


def sources():
    return {path.stem: path.read_text(encoding="utf-8") for path in sorted(PACKAGE.glob("*.py"))}


def trees():
    return {name: ast.parse(source) for name, source in sources().items()}


def bound_names(tree):
    for node in ast.walk(tree):
        if isinstance(node, ast.Name) and isinstance(node.ctx, ast.Store):
            yield node.id
        elif isinstance(node, (ast.FunctionDef, ast.ClassDef)):
            yield node.name
        elif isinstance(node, ast.arg):
            yield node.arg
        elif isinstance(node, ast.Attribute):
            yield node.attr


def parameters(node):
    if isinstance(node, ast.ClassDef):
        inits = [part for part in node.body if isinstance(part, ast.FunctionDef) and part.name == "__init__"]
        return parameters(inits[0])[1:] if inits else []
    collected = ["*" + node.args.vararg.arg] if node.args.vararg else []
    return [argument.arg for argument in node.args.args] + collected + [argument.arg for argument in node.args.kwonlyargs]


def methods(node):
    return {part.name: part for part in node.body if isinstance(part, ast.FunctionDef)}


def classes_of(package):
    return [node for tree in package.values() for node in ast.walk(tree) if isinstance(node, ast.ClassDef)]


def is_attribute(node):
    """Whether this is an attribute that a local name leads to."""
    while isinstance(node, ast.Attribute):
        node = node.value
    return isinstance(node, ast.Name)


class FilesTest(unittest.TestCase):
    def test_only_plain_files(self):
        found = [path.name for path in PACKAGE.iterdir() if path.name != "__pycache__"]
        self.assertIn("__init__.py", found)
        for name in found:
            self.assertRegex(name, r"\A(__init__|__main__|[a-z][a-z0-9_]*)\.py\Z")

    def test_size_and_characters(self):
        for name, source in sources().items():
            with self.subTest(name):
                self.assertRegex(source, r"\A[\n -~]*\Z")
                self.assertLessEqual(len(source.splitlines()), 399)
                self.assertLessEqual(max(len(line) for line in source.splitlines()), 120)

    def test_barred_words(self):
        for name, source in sources().items():
            with self.subTest(name):
                self.assertEqual(set(re.findall(r"\w+", source)) & set(BARRED_WORDS), set())
                for word in BARRED_ANYWHERE:
                    self.assertNotIn(word, source)


class CodeTest(unittest.TestCase):
    def test_size_of_functions(self):
        for name, tree in trees().items():
            for node in ast.walk(tree):
                if isinstance(node, ast.FunctionDef):
                    with self.subTest(name, function=node.name):
                        self.assertLessEqual(node.end_lineno - node.lineno + 1, 40)

    def test_imports_name_the_file_that_defines_the_name(self):
        package = trees()
        for name, tree in package.items():
            for node in ast.walk(tree):
                self.assertNotIsInstance(node, ast.Import)
                if isinstance(node, ast.ImportFrom):
                    with self.subTest(name, module=node.module):
                        self.assertEqual(node.level, 0)
                        folder, _, module = node.module.partition(".")
                        self.assertEqual(folder, "shownshort")
                        defined = {top.name for top in package[module].body if hasattr(top, "name")}
                        defined |= {top.targets[0].id for top in package[module].body if isinstance(top, ast.Assign)}
                        self.assertLessEqual({alias.name for alias in node.names}, defined)

    def test_plain_names(self):
        for name, tree in trees().items():
            for bound in bound_names(tree):
                with self.subTest(name, bound=bound):
                    self.assertTrue(bound in ALLOWED_DUNDERS or not bound.startswith("_"))

    def test_only_builtins_of_the_language(self):
        for name, tree in trees().items():
            for node in ast.walk(tree):
                if isinstance(node, ast.Name) and hasattr(builtins, node.id):
                    with self.subTest(name, line=node.lineno):
                        self.assertIn(node.id, BUILTINS)

    def test_no_barred_names_and_no_names_of_builtins(self):
        for name, tree in trees().items():
            attributes = {node.attr for node in ast.walk(tree) if isinstance(node, ast.Attribute)}
            with self.subTest(name):
                self.assertEqual(set(bound_names(tree)) & NEVER_NAMES, set())
                bound = set(bound_names(tree)) - attributes - set(ALLOWED_DUNDERS)
                self.assertEqual({word for word in bound if word in NOT_NAMES or hasattr(builtins, word)}, set())

    def test_only_methods_of_the_language(self):
        package = trees()
        own = {name for node in classes_of(package) for name in methods(node)}
        for name, tree in package.items():
            for node in ast.walk(tree):
                if isinstance(node, ast.Call) and isinstance(node.func, ast.Attribute):
                    with self.subTest(name, line=node.lineno):
                        self.assertIn(node.func.attr, METHODS | own)

    def assert_plain(self, node, bound):
        """Check for a plain value, or for a table of functions that are defined above."""
        if isinstance(node, ast.Dict) and all(isinstance(part, ast.Name) for part in node.values):
            self.assertLessEqual({part.id for part in node.values}, set(bound))
            node = ast.Tuple(node.keys, ast.Load())
        ast.literal_eval(node)

    def test_plain_module_level(self):
        for name, tree in trees().items():
            bound = []
            for at, top in enumerate(tree.body):
                with self.subTest(name, line=top.lineno):
                    if isinstance(top, ast.ImportFrom):
                        bound += [alias.asname or alias.name for alias in top.names]
                    elif isinstance(top, (ast.FunctionDef, ast.ClassDef)):
                        bound.append(top.name)
                    elif isinstance(top, ast.Assign):
                        self.assertEqual(len(top.targets), 1)
                        self.assert_plain(top.value, bound)
                        bound.append(top.targets[0].id)
                    else:
                        self.assertEqual(at, 0)
                        self.assertIsInstance(top.value.value, str)
            self.assertEqual(len(bound), len(set(bound)))

    def test_no_local_name_is_a_class_or_an_import(self):
        for name, tree in trees().items():
            imports = {alias.name for top in tree.body if isinstance(top, ast.ImportFrom) for alias in top.names}
            classes = {top.name for top in tree.body if isinstance(top, ast.ClassDef)}
            functions = [node for node in ast.walk(tree) if isinstance(node, ast.FunctionDef)]
            for function in functions:
                inner = [part for statement in function.body for part in ast.walk(statement)] + function.args.args
                local = {part.id for part in inner if isinstance(part, ast.Name) and isinstance(part.ctx, ast.Store)}
                local |= {part.arg for part in inner if isinstance(part, ast.arg)}
                with self.subTest(name, function=function.name):
                    self.assertEqual(local & (imports | classes), set())

    def test_no_two_files_import_from_each_other(self):
        imported = {
            name: {node.module.partition(".")[2] for node in ast.walk(tree) if isinstance(node, ast.ImportFrom)}
            for name, tree in trees().items()
        }
        while imported:
            done = {name for name, needed in imported.items() if not needed & set(imported)}
            self.assertTrue(done, imported)
            imported = {name: needed for name, needed in imported.items() if name not in done}

    def test_sets_and_lists_stand_where_they_may(self):
        for name, tree in trees().items():
            for node in ast.walk(tree):
                if not isinstance(node, ast.Call) or not isinstance(node.func, ast.Name):
                    continue
                with self.subTest(name, line=node.lineno):
                    if node.func.id in ("any", "all", "min", "max", "sum", "sorted"):
                        self.assertFalse([part for part in node.args if isinstance(part, ast.GeneratorExp)])
                    if node.func.id == "set":
                        holders = [
                            other for other in ast.walk(tree)
                            if isinstance(other, ast.Call) and isinstance(other.func, ast.Name)
                            and other.func.id in ("sorted", "len") and node in other.args
                        ]
                        self.assertEqual(len(holders), 1)

    def test_no_barred_parts(self):
        for name, tree in trees().items():
            for node in ast.walk(tree):
                with self.subTest(name, line=getattr(node, "lineno", 0)):
                    self.assertNotIsInstance(node, BARRED_NODES)
                    if isinstance(node, ast.FunctionDef):
                        self.assertEqual(node.args.posonlyargs, [])
                    if isinstance(node, ast.Compare):
                        barred = [part for part in node.ops if isinstance(part, (ast.Is, ast.IsNot))]
                        worths = [part.value for part in node.comparators if isinstance(part, ast.Constant)]
                        self.assertTrue(not barred or worths and all(worth in (None, True, False) for worth in worths))
                    if isinstance(node, ast.BinOp) and isinstance(node.op, ast.Pow):
                        self.assertIsInstance(node.right, ast.Constant)
                    if isinstance(node, ast.Constant) and isinstance(node.value, str):
                        self.assertNotIn(chr(37), node.value)

    def test_no_floats_and_no_division(self):
        for name, tree in trees().items():
            for node in ast.walk(tree):
                with self.subTest(name, line=getattr(node, "lineno", 0)):
                    self.assertNotIsInstance(node, ast.Div)
                    if isinstance(node, ast.Constant):
                        self.assertNotIsInstance(node.value, (float, complex))


class ClassesTest(unittest.TestCase):
    def test_no_name_is_a_method_and_an_attribute(self):
        package = trees()
        named = {name for node in classes_of(package) for name in methods(node)}
        assigned = {
            node.attr for tree in package.values() for node in ast.walk(tree)
            if isinstance(node, ast.Attribute) and isinstance(node.ctx, ast.Store)
        }
        self.assertEqual(named & assigned, set())
        read = {
            node.attr for tree in package.values() for node in ast.walk(tree)
            if isinstance(node, ast.Attribute) and isinstance(node.ctx, ast.Load)
        }
        self.assertLessEqual(read, named | assigned | METHODS)

    def test_attributes_are_assigned_through_local_names(self):
        for name, tree in trees().items():
            imported = {alias.name for top in tree.body if isinstance(top, ast.ImportFrom) for alias in top.names}
            tops = imported | {top.name for top in tree.body if hasattr(top, "name")}
            tops |= {top.targets[0].id for top in tree.body if isinstance(top, ast.Assign)}
            for node in ast.walk(tree):
                if isinstance(node, ast.Attribute) and isinstance(node.ctx, ast.Store):
                    with self.subTest(name, line=node.lineno):
                        self.assertTrue(is_attribute(node))
                        while isinstance(node, ast.Attribute):
                            node = node.value
                        self.assertNotIn(node.id, tops)

    def test_methods_with_names_of_builtin_methods_are_called_without_keywords(self):
        for name, tree in trees().items():
            for node in ast.walk(tree):
                if isinstance(node, ast.Call) and isinstance(node.func, ast.Attribute) and node.func.attr in METHODS:
                    with self.subTest(name, line=node.lineno):
                        self.assertEqual(node.keywords, [])

    def test_what_stands_in_finally_and_exit(self):
        for name, tree in trees().items():
            rows = [row for node in ast.walk(tree) if isinstance(node, ast.Try) for row in node.finalbody]
            rows += [
                row for node in ast.walk(tree)
                if isinstance(node, ast.FunctionDef) and node.name == "__exit__" for row in node.body
            ]
            for row in rows:
                with self.subTest(name, line=row.lineno):
                    self.assertIsInstance(row, ast.Assign)
                    target = row.targets[0]
                    targets = target.elts if isinstance(target, ast.Tuple) else [target]
                    worths = row.value.elts if isinstance(row.value, ast.Tuple) else [row.value]
                    self.assertEqual(len(targets), len(worths))
                    self.assertTrue(all(is_attribute(part) for part in targets))
                    self.assertTrue(all(isinstance(part, ast.Constant) or is_attribute(part) for part in worths))

    def test_own_and_few_errors_are_caught(self):
        package = trees()
        own = {node.name for node in classes_of(package)}
        for name, tree in package.items():
            for node in ast.walk(tree):
                if isinstance(node, ast.ExceptHandler):
                    with self.subTest(name, line=node.lineno):
                        caught = node.type.elts if isinstance(node.type, ast.Tuple) else [node.type]
                        self.assertLessEqual({part.id for part in caught}, own | {"KeyError", "ZeroDivisionError"})
                if isinstance(node, ast.Raise) and node.exc is not None:
                    with self.subTest(name, line=node.lineno):
                        self.assertIsInstance(node.exc, ast.Call)
                        self.assertIn(node.exc.func.id, own)


class TestFilesTest(unittest.TestCase):
    def test_each_holds_tests_and_each_module_of_the_interface_is_imported_by_one(self):
        imported = set()
        for path in sorted(pathlib.Path(__file__).resolve().parent.glob("test_*.py")):
            tree = ast.parse(path.read_text(encoding="utf-8"))
            cases = [top for top in tree.body if isinstance(top, ast.ClassDef)]
            with self.subTest(path.name):
                self.assertTrue([name for node in cases for name in methods(node) if name.startswith("test_")])
            imported |= {node.module for node in ast.walk(tree) if isinstance(node, ast.ImportFrom)}
        self.assertLessEqual({f"shownshort.{module}" for module in INTERFACE if module != "errors"}, imported)


class InterfaceTest(unittest.TestCase):
    def test_defined_in_its_file_with_its_parameters(self):
        package = trees()
        for module, listed in INTERFACE.items():
            tops = [top for top in package[module].body if isinstance(top, (ast.FunctionDef, ast.ClassDef))]
            defined = {top.name: parameters(top) for top in tops}
            for name, expected in listed.items():
                with self.subTest(module, name=name):
                    self.assertIn(name, defined)
                    self.assertEqual(defined[name], expected)

    def test_methods_stand_in_their_class(self):
        package = trees()
        for (module, name), listed in METHODS_OF.items():
            found = methods(next(top for top in package[module].body if getattr(top, "name", None) == name))
            for method, expected in listed.items():
                with self.subTest(module, name=name, method=method):
                    self.assertEqual(parameters(found[method])[1:], expected)


if __name__ == "__main__":
    unittest.main()
