"""The form of the package's files: those rules of the language subset that can be asked of a file by itself."""

import ast
import builtins
import pathlib
import re
import unittest

FOLDER = pathlib.Path(__file__).resolve().parent.parent / "stepline"
FILES = sorted(FOLDER.glob("*.py"))
NAMED_FILES = ["__init__.py", "adding.py", "asking.py", "comparing.py", "counting.py", "errors.py", "hills.py",
               "joining.py", "lines.py", "linetexts.py", "nearing.py", "tracks.py", "turning.py", "windows.py"]

BUILTINS = set("""len range enumerate zip min max sum abs sorted reversed int str bool bytes list tuple dict set
frozenset isinstance ord repr any all divmod Exception ValueError TypeError KeyError IndexError LookupError
ZeroDivisionError ArithmeticError OverflowError RuntimeError NotImplementedError NotImplemented""".split())

BARRED_WORDS = set("""type typing typing_extensions enum Enum IntEnum StrEnum Flag IntFlag Generic Protocol ABC ABCMeta
namedtuple NamedTuple TypedDict TYPE_CHECKING abstractmethod""".split())

BARRED_NODES = (ast.Global, ast.AsyncFunctionDef, ast.AsyncFor, ast.AsyncWith, ast.Await, ast.Import, ast.Div)

# Methods of builtin values that the package may call (L25), as far as it is likely to.
BUILTIN_METHODS = set("""append clear copy count endswith extend find get index insert isalnum isalpha isdigit islower
isspace isupper items join keys ljust lower lstrip partition pop remove replace reverse rfind rjust rpartition rsplit
rstrip setdefault split splitlines startswith strip update upper values zfill bit_length removeprefix removesuffix
isascii isdecimal""".split())

# What is iterated on the spot (L23), and the calls that may stand around it.
PASSING = {"zip", "enumerate", "reversed", "range", "items", "keys", "values"}
ITERATING = {"list", "tuple", "dict", "sorted", "sum", "any", "all", "enumerate", "zip", "min", "max", "join"}

TOP_NODES = (ast.ImportFrom, ast.FunctionDef, ast.ClassDef, ast.Assign)


def tree_of(file):
    return ast.parse(file.read_text("ascii"))


def names_bound(tree):
    """All names that a file gives a meaning."""
    names = []
    for node in ast.walk(tree):
        if isinstance(node, (ast.FunctionDef, ast.ClassDef)):
            names.append(node.name)
        elif isinstance(node, ast.arg):
            names.append(node.arg)
        elif isinstance(node, ast.Name) and isinstance(node.ctx, ast.Store):
            names.append(node.id)
        elif isinstance(node, ast.ImportFrom):
            names.extend(alias.asname or alias.name for alias in node.names)
    return names


def imports(tree):
    return [node for node in ast.walk(tree) if isinstance(node, ast.ImportFrom)]


def top_names(tree):
    """The names that a file defines itself, at module level."""
    names = [node.name for node in tree.body if isinstance(node, (ast.FunctionDef, ast.ClassDef))]
    for node in tree.body:
        if isinstance(node, ast.Assign):
            names.extend(target.id for target in node.targets)
    return names


def called_name(node):
    """The name of the function or the method that a call calls."""
    if isinstance(node, ast.Call):
        return node.func.id if isinstance(node.func, ast.Name) else getattr(node.func, "attr", None)
    return None


def own_methods():
    return {node.name for file in FILES for part in ast.walk(tree_of(file)) if isinstance(part, ast.ClassDef)
            for node in part.body if isinstance(node, ast.FunctionDef)}


def own_errors():
    return {node.name for node in ast.walk(tree_of(FOLDER / "errors.py")) if isinstance(node, ast.ClassDef)}


def not_iterated_at_once(tree):
    """The rows of a file's calls that are to be iterated on the spot, and are not."""
    passing = {id(node): node.lineno for node in ast.walk(tree) if called_name(node) in PASSING}
    for node in ast.walk(tree):
        if isinstance(node, (ast.For, ast.comprehension)):
            passing.pop(id(node.iter), None)
        elif called_name(node) in ITERATING:
            for argument in node.args:
                passing.pop(id(argument), None)
    return sorted(passing.values())


class FormTest(unittest.TestCase):
    def test_the_files(self):
        names = [file.name for file in FILES]
        for name in NAMED_FILES:
            self.assertIn(name, names)
        for thing in FOLDER.iterdir():
            if thing.name != "__pycache__":
                self.assertRegex(thing.name, r"^[a-z0-9_]+\.py$")

    def test_characters_and_sizes(self):
        for file in FILES:
            with self.subTest(file.name):
                text = file.read_text("ascii")
                self.assertIsNone(re.search(r"[^\n -~]", text))
                rows = text.split("\n")
                self.assertLessEqual(len(rows), 400)
                self.assertLessEqual(max(len(row) for row in rows), 120)

    def test_functions_are_small(self):
        for file in FILES:
            with self.subTest(file.name):
                for node in ast.walk(tree_of(file)):
                    if isinstance(node, ast.FunctionDef):
                        self.assertLessEqual(node.end_lineno - node.lineno + 1, 40, node.name)

    def test_words_that_are_barred(self):
        for file in FILES:
            with self.subTest(file.name):
                words = set(re.findall(r"\w+", file.read_text("ascii")))
                self.assertEqual(words & BARRED_WORDS, set())
                self.assertNotIn("%", "".join(node.value for node in ast.walk(tree_of(file))
                                              if isinstance(node, ast.Constant) and isinstance(node.value, str)))

    def test_module_level(self):
        for file in FILES:
            with self.subTest(file.name):
                body = tree_of(file).body
                self.assertIsInstance(body[0], ast.Expr)
                for node in body[1:]:
                    self.assertIsInstance(node, TOP_NODES)
                    if isinstance(node, (ast.FunctionDef, ast.ClassDef)):
                        self.assertEqual(node.decorator_list, [])

    def test_statements_and_values(self):
        for file in FILES:
            with self.subTest(file.name):
                for node in ast.walk(tree_of(file)):
                    self.assertNotIsInstance(node, BARRED_NODES)
                    if isinstance(node, ast.Constant):
                        self.assertNotIsInstance(node.value, (float, complex))

    def test_names(self):
        known = set(dir(builtins))
        for file in FILES:
            with self.subTest(file.name):
                names = names_bound(tree_of(file))
                for name in names:
                    self.assertRegex(name, r"^(__[a-z]+__|[a-zA-Z][a-zA-Z0-9_]*)$")
                self.assertEqual(set(names) & known, set())

    def test_is_is_asked_of_none_true_and_false_only(self):
        for file in FILES:
            with self.subTest(file.name):
                for node in ast.walk(tree_of(file)):
                    if isinstance(node, ast.Compare) and any(isinstance(op, (ast.Is, ast.IsNot)) for op in node.ops):
                        self.assertEqual(len(node.ops), 1)
                        self.assertIn(ast.unparse(node.comparators[0]), ("None", "True", "False"))

    def test_methods_that_are_called(self):
        known = BUILTIN_METHODS | own_methods()
        for file in FILES:
            with self.subTest(file.name):
                for node in ast.walk(tree_of(file)):
                    if isinstance(node, ast.Call) and isinstance(node.func, ast.Attribute):
                        self.assertIn(node.func.attr, known)

    def test_no_name_is_a_method_and_an_attribute(self):
        for file in FILES:
            with self.subTest(file.name):
                stored = {node.attr for node in ast.walk(tree_of(file))
                          if isinstance(node, ast.Attribute) and isinstance(node.ctx, ast.Store)}
                self.assertEqual(stored & (own_methods() | BUILTIN_METHODS), set())

    def test_iterated_at_once(self):
        for file in FILES:
            with self.subTest(file.name):
                self.assertEqual(not_iterated_at_once(tree_of(file)), [])

    def test_errors_are_made_on_the_spot_and_caught_by_name(self):
        errors = own_errors()
        for file in FILES:
            with self.subTest(file.name):
                for node in ast.walk(tree_of(file)):
                    if isinstance(node, ast.Raise):
                        self.assertIn(called_name(node.exc), errors)
                    elif isinstance(node, ast.ExceptHandler):
                        self.assertIn(ast.unparse(node.type), errors)

    def test_powers_have_a_literal_exponent(self):
        for file in FILES:
            with self.subTest(file.name):
                for node in ast.walk(tree_of(file)):
                    if isinstance(node, ast.BinOp) and isinstance(node.op, ast.Pow):
                        self.assertIsInstance(node.right, ast.Constant)

    def test_builtins(self):
        known = set(dir(builtins))
        for file in FILES:
            with self.subTest(file.name):
                used = {node.id for node in ast.walk(tree_of(file)) if isinstance(node, ast.Name)}
                self.assertEqual((used & known) - BUILTINS, set())

    def test_locals_have_no_name_of_an_import_or_a_class(self):
        for file in FILES:
            with self.subTest(file.name):
                tree = tree_of(file)
                taken = {alias.name for node in imports(tree) for alias in node.names}
                taken |= {node.name for node in tree.body if isinstance(node, ast.ClassDef)}
                names = names_bound(tree)
                for name in taken:
                    self.assertEqual(names.count(name), 1, name)

    def test_imports_name_the_file_that_defines_the_name(self):
        for file in FILES:
            with self.subTest(file.name):
                for node in imports(tree_of(file)):
                    self.assertEqual(node.level, 0)
                    self.assertRegex(node.module, r"^stepline\.[a-z0-9_]+$")
                    defined = top_names(tree_of(FOLDER / (node.module.split(".")[1] + ".py")))
                    for alias in node.names:
                        self.assertIn(alias.name, defined)
                        self.assertIsNone(alias.asname)

    def test_no_two_files_import_from_each_other(self):
        above = {file.stem: {node.module.split(".")[1] for node in imports(tree_of(file))} for file in FILES}
        while above:
            free = [name for name in above if not above[name] & set(above)]
            self.assertNotEqual(free, [], above)
            for name in free:
                del above[name]


if __name__ == "__main__":
    unittest.main()
