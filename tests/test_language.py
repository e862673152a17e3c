"""Those rules of the language that a short check can see, for every file of the package."""

import ast
import builtins
import pathlib
import re
import unittest

FOLDER = pathlib.Path(__file__).resolve().parent.parent / "insertionorders"

BUILTINS = set("""
    len range enumerate zip min max sum abs sorted reversed int str bool bytes list tuple dict set isinstance ord
    repr any all divmod iter next Exception ValueError TypeError KeyError IndexError LookupError ZeroDivisionError
    ArithmeticError OverflowError RuntimeError NotImplementedError property staticmethod classmethod super
    NotImplemented
""".split())

METHODS = set("""
    append clear copy count endswith extend find get index insert isalnum isalpha isdigit islower isspace isupper
    items join keys ljust lower lstrip partition pop remove replace reverse rfind rjust rpartition rsplit rstrip
    setdefault split splitlines startswith strip update upper values zfill bit_length add discard
""".split())

SPECIAL = set("__init__ __eq__ __len__ __repr__ __str__".split())

BARRED_NAMES = set("""
    register mro elements open input version_info with_traceback add_note attrgetter breakpoint builtins compile
    copyright credits delattr dir eval exec exit gc getattr globals hasattr help id importlib license locals
    methodcaller os quit setattr vars sys
""".split())

BARRED_WORDS = re.compile(
    r"\b(type|typing|typing_extensions|enum|Enum|IntEnum|StrEnum|Flag|IntFlag|Generic|Protocol|ABC|ABCMeta"
    r"|namedtuple|NamedTuple|TypedDict|TYPE_CHECKING|abstractmethod)\b|dataclass|overload|contextmanager")

BARRED_NODES = (ast.Global, ast.AsyncFunctionDef, ast.Await, ast.Div, ast.Import)


def sources():
    return {path: path.read_text(encoding="utf-8") for path in sorted(FOLDER.glob("**/*.py"))}


def nodes(source):
    return list(ast.walk(ast.parse(source)))


def bound_names(node):
    """Return the names that a node gives a meaning to."""
    if isinstance(node, (ast.FunctionDef, ast.ClassDef)):
        return [node.name]
    if isinstance(node, ast.arg):
        return [node.arg]
    if isinstance(node, ast.Name) and isinstance(node.ctx, ast.Store):
        return [node.id]
    if isinstance(node, ast.Attribute) and isinstance(node.ctx, ast.Store):
        return [node.attr]
    return []


def bound_at_top(statement):
    """Return the names that a statement at module level defines."""
    if isinstance(statement, (ast.FunctionDef, ast.ClassDef)):
        return [statement.name]
    if isinstance(statement, ast.Assign):
        return [target.id for target in statement.targets]
    return []


def defined_at_top(source):
    return {name for statement in ast.parse(source).body for name in bound_at_top(statement)}


def imported(source):
    return [alias.asname or alias.name for node in nodes(source) if isinstance(node, ast.ImportFrom)
            for alias in node.names]


def modules_imported(source):
    return {node.module.split(".")[1] for node in nodes(source) if isinstance(node, ast.ImportFrom)}


class Files(unittest.TestCase):
    def test_nothing_else_in_the_folder(self):
        self.assertTrue((FOLDER / "__init__.py").is_file())
        for path in FOLDER.glob("**/*"):
            if "__pycache__" not in path.parts and path.is_file():
                self.assertRegex(path.name, r"^[a-z0-9_]+\.py$")

    def test_characters_and_sizes(self):
        for path, source in sources().items():
            with self.subTest(path.name):
                self.assertRegex(source, r"\A[ -~\n]*\Z")
                self.assertLessEqual(len(source.splitlines()), 400)
                self.assertLessEqual(max(len(line) for line in source.splitlines()), 120)
                for node in nodes(source):
                    if isinstance(node, ast.FunctionDef):
                        self.assertLessEqual(node.end_lineno - node.lineno + 1, 40)

    def test_words(self):
        for path, source in sources().items():
            with self.subTest(path.name):
                self.assertIsNone(BARRED_WORDS.search(source))


class Names(unittest.TestCase):
    def test_bound_names(self):
        for path, source in sources().items():
            for node in nodes(source):
                for name in bound_names(node):
                    with self.subTest(path.name, name=name):
                        self.assertTrue(name in SPECIAL or not name.startswith("_"))
                        self.assertNotIn(name, BARRED_NAMES)
                        if not isinstance(node, (ast.Attribute, ast.FunctionDef)):
                            self.assertFalse(hasattr(builtins, name))

    def test_builtins(self):
        for path, source in sources().items():
            for node in nodes(source):
                if isinstance(node, ast.Name) and hasattr(builtins, node.id):
                    with self.subTest(path.name, name=node.id):
                        self.assertIn(node.id, BUILTINS)

    def test_called_methods(self):
        own = {name for source in sources().values() for node in nodes(source) for name in bound_names(node)}
        for path, source in sources().items():
            for node in nodes(source):
                if isinstance(node, ast.Call) and isinstance(node.func, ast.Attribute):
                    with self.subTest(path.name, name=node.func.attr):
                        self.assertIn(node.func.attr, METHODS | own | SPECIAL)

    def test_each_name_is_bound_once_at_the_top(self):
        for path, source in sources().items():
            names = imported(source) + [name for node in ast.parse(source).body for name in bound_at_top(node)]
            with self.subTest(path.name):
                self.assertEqual(len(names), len(set(names)))

    def test_no_local_name_hides_an_import_or_a_class(self):
        for path, source in sources().items():
            classes = [node.name for node in nodes(source) if isinstance(node, ast.ClassDef)]
            for node in nodes(source):
                if isinstance(node, (ast.arg, ast.Name)):
                    with self.subTest(path.name, line=node.lineno):
                        self.assertFalse(set(bound_names(node)) & set(imported(source) + classes))


class Statements(unittest.TestCase):
    def test_imports(self):
        for path, source in sources().items():
            body = [node for node in ast.parse(source).body if not isinstance(node, ast.Expr)]
            tops = [node for node in body if isinstance(node, ast.ImportFrom)]
            self.assertEqual(tops, body[:len(tops)])
            self.assertEqual(len(tops), len([node for node in nodes(source) if isinstance(node, ast.ImportFrom)]))
            for node in tops:
                with self.subTest(path.name, module=node.module):
                    package, name = node.module.split(".")
                    self.assertEqual((package, node.level), ("insertionorders", 0))
                    defined = defined_at_top((FOLDER / (name + ".py")).read_text(encoding="utf-8"))
                    self.assertLessEqual({alias.name for alias in node.names}, defined)

    def test_no_file_imports_itself(self):
        needed = {path.stem: modules_imported(source) for path, source in sources().items()}
        for name in needed:
            reached, new = set(), needed[name]
            while new:
                reached |= new
                new = {further for one in reached for further in needed[one]} - reached
            with self.subTest(name):
                self.assertNotIn(name, reached)

    def test_ancestry_builds_no_tree(self):
        self.assertEqual(modules_imported((FOLDER / "ancestry.py").read_text(encoding="utf-8")), {"orders"})

    def test_barred_statements(self):
        for path, source in sources().items():
            for node in nodes(source):
                with self.subTest(path.name, line=getattr(node, "lineno", None)):
                    self.assertNotIsInstance(node, BARRED_NODES)

    def test_is(self):
        for path, source in sources().items():
            for node in nodes(source):
                if isinstance(node, ast.Compare):
                    for sign, other in zip(node.ops, node.comparators):
                        if isinstance(sign, (ast.Is, ast.IsNot)):
                            with self.subTest(path.name, line=node.lineno):
                                self.assertIn(getattr(other, "value", 0), (None, True, False))
                                self.assertIsInstance(other, ast.Constant)

    def test_no_generator_expressions(self):
        # A class of the package has an __eq__, so that any, all, min, max, sum and sorted take lists (L7).
        for path, source in sources().items():
            for node in nodes(source):
                with self.subTest(path.name, line=getattr(node, "lineno", None)):
                    self.assertNotIsInstance(node, ast.GeneratorExp)

    def test_no_method_is_an_attribute_elsewhere(self):
        classes = [node for source in sources().values() for node in nodes(source) if isinstance(node, ast.ClassDef)]
        methods = {node.name for one in classes for node in one.body if isinstance(node, ast.FunctionDef)}
        stored = {node.attr for one in classes for node in ast.walk(one)
                  if isinstance(node, ast.Attribute) and isinstance(node.ctx, ast.Store)}
        self.assertFalse(methods & stored)

    def test_keywords_of_builtins(self):
        for path, source in sources().items():
            for node in nodes(source):
                if isinstance(node, ast.Call) and isinstance(node.func, ast.Name) and node.func.id in BUILTINS:
                    with self.subTest(path.name, line=node.lineno):
                        self.assertLessEqual({one.arg for one in node.keywords}, {"key", "reverse", "start", "default"})

    def test_constants(self):
        for path, source in sources().items():
            for node in nodes(source):
                if isinstance(node, ast.Constant):
                    with self.subTest(path.name, line=node.lineno):
                        self.assertNotIsInstance(node.value, (float, complex))
                        if isinstance(node.value, str):
                            self.assertNotIn("%", node.value)
