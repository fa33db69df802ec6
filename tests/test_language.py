"""Some of the rules of the language that the package is written in, as far as a test can see them."""

import ast
import pathlib
import re
import unittest

PACKAGE = pathlib.Path(__file__).resolve().parent.parent / "twicesaid"
BUILTINS = """len range enumerate zip min max sum abs sorted reversed int str bool list tuple dict set isinstance
    ord repr any all divmod ValueError KeyError IndexError LookupError NotImplemented""".split()
METHODS = """append clear copy count endswith extend find get index insert isalnum isalpha isdigit islower isspace
    isupper items join keys ljust lower lstrip partition pop remove replace reverse rfind rjust rpartition rsplit
    rstrip setdefault split splitlines startswith strip update upper values zfill bit_length add discard""".split()
BARRED_WORDS = """type typing typing_extensions enum Enum IntEnum StrEnum Flag IntFlag Generic Protocol ABC ABCMeta
    namedtuple NamedTuple TypedDict TYPE_CHECKING abstractmethod dataclass overload contextmanager""".split()
BARRED_NODES = (ast.Global, ast.AsyncFunctionDef, ast.Await, ast.Div, ast.Import)


def files():
    return sorted(PACKAGE.glob("*.py"))


def names_bound(tree):
    """The names that a file binds, in whatever place."""
    names = set()
    for node in ast.walk(tree):
        if isinstance(node, ast.Name) and not isinstance(node.ctx, ast.Load):
            names.add(node.id)
        elif isinstance(node, (ast.FunctionDef, ast.ClassDef)):
            names.add(node.name)
        elif isinstance(node, ast.arg):
            names.add(node.arg)
        elif isinstance(node, ast.ImportFrom):
            names.update(alias.asname or alias.name for alias in node.names)
        elif isinstance(node, ast.ExceptHandler) and node.name:
            names.add(node.name)
    return names


def trees():
    return [(path.name, ast.parse(path.read_text())) for path in files()]


class Language(unittest.TestCase):
    def test_the_folder_has_nothing_but_files_of_python(self):
        others = [p.name for p in PACKAGE.iterdir() if p.suffix != ".py" and p.name != "__pycache__"]
        self.assertEqual(others, [])

    def test_sizes_and_signs(self):
        for path in files():
            text = path.read_text(encoding="ascii")
            rows = text.split("\n")
            self.assertLessEqual(len(rows), 400, path.name)
            self.assertLessEqual(max(len(row) for row in rows), 120, path.name)
            self.assertTrue(all(sign == "\n" or " " <= sign <= "~" for sign in text), path.name)
            self.assertNotIn("\\x", text, path.name)
            for word in BARRED_WORDS:
                self.assertIsNone(re.search(rf"\b{word}\b", text), (path.name, word))

    def test_functions_are_short(self):
        for path in files():
            for node in ast.walk(ast.parse(path.read_text())):
                if isinstance(node, ast.FunctionDef):
                    self.assertLessEqual(node.end_lineno - node.lineno + 1, 40, (path.name, node.name))

    def test_imports(self):
        for path in files():
            for node in ast.walk(ast.parse(path.read_text())):
                if isinstance(node, ast.ImportFrom):
                    self.assertRegex(node.module, r"^twicesaid\.[a-z]+$", path.name)
                    self.assertEqual(node.level, 0, path.name)

    def test_nothing_barred(self):
        for path in files():
            for node in ast.walk(ast.parse(path.read_text())):
                self.assertNotIsInstance(node, BARRED_NODES, (path.name, getattr(node, "lineno", 0)))
                if isinstance(node, ast.Constant):
                    self.assertNotIsInstance(node.value, float, path.name)
                if isinstance(node, ast.Constant) and isinstance(node.value, str):
                    self.assertNotIn("%", node.value, path.name)

    def test_names(self):
        for path in files():
            tree = ast.parse(path.read_text())
            bound = names_bound(tree)
            for name in bound - {"__init__", "__eq__", "__len__"}:
                self.assertRegex(name, r"^[A-Za-z][A-Za-z0-9_]*$", path.name)
                self.assertNotIn(name, dir(__builtins__) if not isinstance(__builtins__, dict) else __builtins__)
            for node in ast.walk(tree):
                if isinstance(node, ast.Name) and isinstance(node.ctx, ast.Load) and node.id not in bound:
                    self.assertIn(node.id, BUILTINS, (path.name, node.lineno))

    def test_methods(self):
        own = set()
        for path in files():
            for node in ast.walk(ast.parse(path.read_text())):
                if isinstance(node, ast.ClassDef):
                    own.update(row.name for row in node.body if isinstance(row, ast.FunctionDef))
        for path in files():
            for node in ast.walk(ast.parse(path.read_text())):
                if isinstance(node, ast.Call) and isinstance(node.func, ast.Attribute):
                    self.assertIn(node.func.attr, own | set(METHODS), (path.name, node.lineno))

    def test_no_variable_has_the_name_of_an_import_or_a_class(self):
        for name, tree in trees():
            taken = {alias.asname or alias.name for node in tree.body if isinstance(node, ast.ImportFrom)
                     for alias in node.names}
            taken |= {node.name for node in tree.body if isinstance(node, ast.ClassDef)}
            bound = [node.id for node in ast.walk(tree)
                     if isinstance(node, ast.Name) and not isinstance(node.ctx, ast.Load)]
            bound += [node.arg for node in ast.walk(tree) if isinstance(node, ast.arg)]
            self.assertEqual(taken & set(bound), set(), name)

    def test_no_name_is_a_method_and_an_attribute(self):
        methods, attributes = set(), set()
        for _, tree in trees():
            for node in ast.walk(tree):
                if isinstance(node, ast.ClassDef):
                    methods.update(row.name for row in node.body if isinstance(row, ast.FunctionDef))
                if isinstance(node, ast.Attribute) and not isinstance(node.ctx, ast.Load):
                    attributes.add(node.attr)
        self.assertEqual(methods & attributes, set())

    def test_each_import_names_the_file_that_defines_the_name(self):
        defined = {name: names_bound(tree) - {alias.name for node in tree.body if isinstance(node, ast.ImportFrom)
                                              for alias in node.names} for name, tree in trees()}
        for name, tree in trees():
            for node in tree.body:
                if isinstance(node, ast.ImportFrom):
                    for alias in node.names:
                        self.assertIn(alias.name, defined[node.module.split(".")[1] + ".py"], name)

    def test_no_files_import_from_each_other(self):
        above = {name: {node.module.split(".")[1] + ".py" for node in tree.body if isinstance(node, ast.ImportFrom)}
                 for name, tree in trees()}
        while above:
            ready = [name for name in above if not above[name] & set(above)]
            self.assertNotEqual(ready, [], sorted(above))
            above = {name: above[name] for name in above if name not in ready}

    def test_truths_are_asked_of_lists(self):
        """Where a class is comparable, `all`, `any` and their kin take lists instead of generators."""
        for path in files():
            for node in ast.walk(ast.parse(path.read_text())):
                self.assertNotIsInstance(node, ast.GeneratorExp, (path.name, getattr(node, "lineno", 0)))


if __name__ == "__main__":
    unittest.main()
