"""Rules of the language that a look at the files can tell: their form, imports, names and kinds of statements."""

import ast
import builtins
import os
import re
import unittest

FOLDER = os.path.join(os.path.dirname(__file__), os.pardir, "evernear")
LIBRARY = {
    "heapq": "heappush heappop heapify heapreplace heappushpop",
    "math": "gcd lcm isqrt comb perm factorial",
    "itertools": "product combinations permutations chain accumulate pairwise islice zip_longest",
    "collections": "defaultdict",
}
# The name _ comes among them where something was shown by a prompt.
PYTHON_NAMES = [name for name in dir(builtins) if name != "_"]
BUILTINS = """len range enumerate zip min max sum abs sorted reversed int str bool bytes list tuple dict set isinstance ord
    repr any all divmod pow map iter next Exception ValueError TypeError KeyError IndexError LookupError
    ZeroDivisionError ArithmeticError OverflowError RuntimeError NotImplementedError AttributeError StopIteration
    NotImplemented property staticmethod classmethod super""".split()
METHODS = """append clear copy count endswith extend find get index insert isalnum isalpha isdigit islower isspace isupper
    items join keys ljust lower lstrip partition pop remove replace reverse rfind rjust rpartition rsplit rstrip
    setdefault split splitlines startswith strip update upper values zfill bit_length sort add discard""".split()
STATEMENTS = (
    ast.Module, ast.FunctionDef, ast.ClassDef, ast.Import, ast.ImportFrom, ast.Assign, ast.AugAssign, ast.AnnAssign,
    ast.If, ast.While, ast.For, ast.Return, ast.Break, ast.Continue, ast.Pass, ast.Raise, ast.Assert, ast.Delete,
    ast.Nonlocal, ast.Match, ast.With, ast.Try, ast.Expr,
)
BARRED = """typing typing_extensions enum Enum IntEnum StrEnum Flag IntFlag Generic Protocol ABC ABCMeta namedtuple
    NamedTuple TypedDict TYPE_CHECKING abstractmethod dataclass overload contextmanager register mro elements open
    input law version_info with_traceback add_note""".split()


def files():
    return sorted(name for name in os.listdir(FOLDER) if name != "__pycache__")


def sources():
    found = {}
    for name in files():
        with open(os.path.join(FOLDER, name), encoding="utf-8", newline="") as file:
            found[name] = file.read()
    return found


def trees():
    return {name: ast.parse(text) for name, text in sources().items()}


def bound_names(tree):
    for node in ast.walk(tree):
        if isinstance(node, ast.Name) and not isinstance(node.ctx, ast.Load):
            yield node.id
        elif isinstance(node, (ast.FunctionDef, ast.ClassDef)):
            yield node.name
        elif isinstance(node, ast.arg):
            yield node.arg


def module_names(tree):
    for node in tree.body:
        if isinstance(node, (ast.FunctionDef, ast.ClassDef)):
            yield node.name
        elif isinstance(node, ast.Assign):
            yield node.targets[0].id


class Files(unittest.TestCase):
    def test_names_of_files(self):
        self.assertIn("__init__.py", files())
        for name in files():
            self.assertRegex(name, r"^(__init__|[a-z][a-z0-9_]*)\.py$")

    def test_characters_and_sizes(self):
        for name, text in sources().items():
            self.assertRegex(text, r"\A[ -~\n]*\Z", name)
            lines = text.split("\n")
            self.assertLessEqual(len(lines) - 1, 399, name)
            self.assertLessEqual(max(map(len, lines)), 120, name)

    def test_functions_have_at_most_40_lines(self):
        for name, tree in trees().items():
            for node in ast.walk(tree):
                if isinstance(node, ast.FunctionDef):
                    self.assertLessEqual(node.end_lineno - node.lineno + 1, 40, (name, node.name))

    def test_barred_words(self):
        for name, text in sources().items():
            for word in re.findall("[A-Za-z_0-9]+", text):
                self.assertNotIn(word, BARRED, name)
                self.assertFalse(word.startswith("_wall"), name)


class Modules(unittest.TestCase):
    def test_imports_stand_at_the_top_and_name_the_file_that_defines_the_name(self):
        defined = {name: list(module_names(tree)) for name, tree in trees().items()}
        for name, tree in trees().items():
            body = tree.body[1:] if ast.get_docstring(tree) else tree.body
            imports = [node for node in ast.walk(tree) if isinstance(node, (ast.Import, ast.ImportFrom))]
            self.assertEqual(body[:len(imports)], imports, name)
            for node in imports:
                self.assertIsInstance(node, ast.ImportFrom, name)
                names = [alias.name for alias in node.names]
                if node.module in LIBRARY:
                    self.assertLessEqual(set(names), set(LIBRARY[node.module].split()), name)
                else:
                    package, file = node.module.split(".")
                    self.assertEqual(package, "evernear")
                    self.assertLessEqual(set(names), set(defined[file + ".py"]), name)

    def test_no_two_files_import_from_each_other(self):
        wanted = {}
        for name, tree in trees().items():
            modules = [node.module for node in ast.walk(tree) if isinstance(node, ast.ImportFrom)]
            wanted[name] = [module.split(".")[1] + ".py" for module in modules if module.startswith("evernear.")]
        while wanted:
            free = [name for name in wanted if not set(wanted[name]) & set(wanted)]
            self.assertTrue(free, f"{sorted(wanted)} import from each other")
            for name in free:
                del wanted[name]

    def test_module_level(self):
        for name, tree in trees().items():
            for node in tree.body:
                plain = isinstance(node, (ast.FunctionDef, ast.ClassDef, ast.ImportFrom, ast.Assign))
                text = isinstance(node, ast.Expr) and isinstance(node.value, ast.Constant)
                self.assertTrue(plain or text, (name, node.lineno))
                if isinstance(node, ast.Assign):
                    self.assertFalse([part for part in ast.walk(node) if isinstance(part, ast.Call)], name)
                    self.assertIsInstance(node.targets[0], ast.Name)
                    self.assertEqual(len(node.targets), 1)

    def test_each_name_is_bound_once_and_is_none_of_a_builtin(self):
        for name, tree in trees().items():
            top = list(module_names(tree))
            imported = [alias.name for node in tree.body if isinstance(node, ast.ImportFrom) for alias in node.names]
            self.assertEqual(len(top + imported), len(set(top + imported)), name)
            for word in bound_names(tree):
                self.assertNotIn(word, PYTHON_NAMES, name)
                self.assertNotIn(word, imported, name)
                self.assertNotIn(word, ["sys", "os", "gc"], name)
                if not re.fullmatch("__(init|eq|len|repr|str)__", word):
                    self.assertRegex(word, "^(_|_?[A-Za-z][A-Za-z0-9_]*)$", name)


class Code(unittest.TestCase):
    def test_kinds_of_statements_and_values(self):
        for name, tree in trees().items():
            for node in ast.walk(tree):
                told = (name, getattr(node, "lineno", None))
                if isinstance(node, ast.stmt):
                    self.assertIsInstance(node, STATEMENTS, told)
                self.assertNotIsInstance(node, (ast.Div, ast.MatMult, ast.Await, ast.AsyncFor), told)
                if isinstance(node, ast.Constant):
                    self.assertNotIsInstance(node.value, (float, complex), told)
                    self.assertFalse(isinstance(node.value, str) and "%" in node.value, told)
                if isinstance(node, ast.Try):
                    self.assertTrue(all(handler.type is not None for handler in node.handlers), told)
                if isinstance(node, ast.FunctionDef):
                    decorators = [ast.unparse(part) for part in node.decorator_list]
                    self.assertLessEqual(set(decorators), {"property", "staticmethod", "classmethod"}, told)

    def test_identity_is_asked_of_none_true_and_false_only(self):
        for name, tree in trees().items():
            for node in ast.walk(tree):
                if isinstance(node, ast.Compare) and isinstance(node.ops[0], (ast.Is, ast.IsNot)):
                    self.assertIn(ast.unparse(node.comparators[0]), ["None", "True", "False"], (name, node.lineno))

    def test_builtins(self):
        for name, tree in trees().items():
            for node in ast.walk(tree):
                if isinstance(node, ast.Name) and node.id in PYTHON_NAMES:
                    self.assertIn(node.id, BUILTINS, (name, node.lineno))

    def test_methods(self):
        every = list(trees().values())
        own = [node.name for tree in every for node in ast.walk(tree) if isinstance(node, ast.FunctionDef)]
        for name, tree in trees().items():
            for node in ast.walk(tree):
                if isinstance(node, ast.Call) and isinstance(node.func, ast.Attribute):
                    self.assertIn(node.func.attr, METHODS + own, (name, node.lineno))

    def test_no_set_is_iterated(self):
        for name, tree in trees().items():
            for node in ast.walk(tree):
                if isinstance(node, (ast.For, ast.comprehension)):
                    self.assertNotIsInstance(node.iter, (ast.Set, ast.SetComp), name)
                    self.assertFalse(ast.unparse(node.iter).startswith(("set(", "frozenset(")), name)


if __name__ == "__main__":
    unittest.main()
