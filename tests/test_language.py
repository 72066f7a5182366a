"""Those rules of the language that can be read off the files; the others are for the eye."""

import ast
import builtins
import os
import re
import unittest

import beltshift

FOLDER = os.path.dirname(os.path.abspath(beltshift.__file__))
BUILTINS = set(
    "len range enumerate zip min max sum abs sorted reversed int str bool list tuple dict set isinstance ord repr"
    " any all divmod iter next Exception ValueError TypeError KeyError IndexError LookupError ZeroDivisionError"
    " RuntimeError NotImplementedError".split()
)
METHODS = set(
    "append clear copy count endswith extend find get index insert isalnum isalpha isdigit islower isspace isupper"
    " items join keys ljust lower lstrip partition pop remove replace reverse rfind rjust rpartition rsplit rstrip"
    " setdefault split splitlines startswith strip update upper values zfill bit_length removeprefix removesuffix"
    " add discard sort".split()
)
BARRED_WORDS = (
    "type typing typing_extensions enum Enum IntEnum StrEnum Flag IntFlag Generic Protocol ABC ABCMeta namedtuple"
    " NamedTuple TypedDict TYPE_CHECKING abstractmethod dataclass overload contextmanager".split()
)
BARRED_NAMES = set(
    "register mro elements open input law version_info with_traceback add_note format format_map args id vars".split()
)
BARRED_NODES = (ast.Global, ast.AsyncFunctionDef, ast.Await, ast.Import, ast.Div, ast.MatMult)


def texts():
    told = {}
    for name in sorted(os.listdir(FOLDER)):
        if name == "__pycache__":
            continue
        with open(os.path.join(FOLDER, name), encoding="utf-8") as file:
            told[name] = file.read()
    return told


TEXTS = texts()
TREES = {name: ast.parse(text) for name, text in TEXTS.items() if name.endswith(".py")}


def nodes(*kinds):
    for name, tree in TREES.items():
        for node in ast.walk(tree):
            if isinstance(node, kinds):
                yield name, node


def defined(tree):
    return [node.name for node in tree.body if isinstance(node, (ast.FunctionDef, ast.ClassDef))]


def assigned(tree):
    return [node.targets[0].id for node in tree.body if isinstance(node, ast.Assign)]


def imports(tree):
    return [node for node in tree.body if isinstance(node, ast.ImportFrom)]


class Files(unittest.TestCase):
    def test_files(self):
        self.assertIn("__init__.py", TEXTS)
        for name in TEXTS:
            self.assertRegex(name, r"^[a-z0-9_]+\.py$")

    def test_sizes_and_signs(self):
        for name, text in TEXTS.items():
            self.assertTrue(all(sign == "\n" or " " <= sign <= "~" for sign in text), name)
            self.assertLessEqual(len(text.split("\n")), 399, name)
            for line in text.split("\n"):
                self.assertLessEqual(len(line), 120, (name, line))
        for name, node in nodes(ast.FunctionDef):
            self.assertLessEqual(node.end_lineno - node.lineno + 1, 40, (name, node.name))

    def test_barred_words(self):
        for name, text in TEXTS.items():
            for word in BARRED_WORDS:
                self.assertIsNone(re.search(rf"\b{word}\b", text), (name, word))

    def test_module_level(self):
        for name, tree in TREES.items():
            for node in tree.body:
                kinds = (ast.ImportFrom, ast.FunctionDef, ast.ClassDef, ast.Assign, ast.Expr)
                self.assertIsInstance(node, kinds, name)
                if isinstance(node, ast.Expr):
                    self.assertIsInstance(node.value, ast.Constant, name)
            bound = defined(tree) + assigned(tree) + [alias.name for node in imports(tree) for alias in node.names]
            self.assertEqual(len(bound), len(set(bound)), name)


class Imports(unittest.TestCase):
    def test_from_the_file_that_defines(self):
        for name, node in nodes(ast.ImportFrom):
            self.assertEqual(node.level, 0, name)
            package, dot, module = node.module.partition(".")
            self.assertEqual(package, "beltshift", name)
            home = TREES[module + ".py"]
            for alias in node.names:
                self.assertIn(alias.name, defined(home) + assigned(home), name)
                self.assertIsNone(alias.asname, name)

    def test_no_round(self):
        leads = {name: {node.module.split(".")[1] + ".py" for node in imports(tree)} for name, tree in TREES.items()}
        left = dict(leads)
        while left:
            free = [name for name, others in left.items() if not others & set(left)]
            self.assertTrue(free, left)
            for name in free:
                del left[name]

    def test_no_local_name_of_an_import(self):
        for name, tree in TREES.items():
            taken = {alias.name for node in imports(tree) for alias in node.names}
            for node in ast.walk(tree):
                if isinstance(node, ast.arg):
                    self.assertNotIn(node.arg, taken, name)
                if isinstance(node, ast.Name) and isinstance(node.ctx, ast.Store):
                    self.assertNotIn(node.id, taken, name)


class Names(unittest.TestCase):
    def names(self):
        for name, node in nodes(ast.FunctionDef, ast.ClassDef):
            yield name, node.name
        for name, node in nodes(ast.arg):
            yield name, node.arg
        for name, node in nodes(ast.Name):
            if isinstance(node.ctx, ast.Store):
                yield name, node.id

    def test_plain(self):
        for name, word in self.names():
            if word == "__init__":
                continue
            self.assertRegex(word, "^[A-Za-z][A-Za-z0-9_]*$", name)
            self.assertFalse(hasattr(builtins, word), (name, word))
            self.assertNotIn(word, BARRED_NAMES, name)

    def test_builtins(self):
        known = {word for name, word in self.names()}
        for name, tree in TREES.items():
            known.update(alias.name for node in imports(tree) for alias in node.names)
        for name, node in nodes(ast.Name):
            self.assertIn(node.id, known | BUILTINS, name)

    def test_methods_and_attributes(self):
        own = set()
        for name, node in nodes(ast.ClassDef):
            own.update(method.name for method in node.body if isinstance(method, ast.FunctionDef))
        fields = {node.attr for name, node in nodes(ast.Attribute) if isinstance(node.ctx, ast.Store)}
        self.assertEqual(own & fields, set())
        self.assertEqual(fields & METHODS, set())
        for name, node in nodes(ast.Attribute):
            self.assertIn(node.attr, own | fields | METHODS, name)


class Expressions(unittest.TestCase):
    def test_barred_statements_and_signs(self):
        for name, node in nodes(*BARRED_NODES):
            self.fail((name, getattr(node, "lineno", None)))

    def test_is(self):
        for name, node in nodes(ast.Compare):
            for sign, side in zip(node.ops, node.comparators):
                if isinstance(sign, (ast.Is, ast.IsNot)):
                    self.assertIsInstance(side, ast.Constant, name)
                    self.assertIn(side.value, (None, True, False), name)

    def test_constants(self):
        for name, node in nodes(ast.Constant):
            self.assertNotIsInstance(node.value, (float, complex), name)
            if isinstance(node.value, str):
                self.assertNotIn("%", node.value, name)

    def test_raised_on_the_spot(self):
        for name, node in nodes(ast.Raise):
            self.assertIsInstance(node.exc, ast.Call, name)
            self.assertIsInstance(node.exc.func, ast.Name, name)
