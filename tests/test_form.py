"""The form of the package's own files: those rules of the language that can be seen in the files by themselves."""

import ast
import builtins
import os
import re
import unittest

ROOT = os.path.dirname(os.path.dirname(os.path.abspath(__file__)))
PACKAGE = os.path.join(ROOT, "skewbooks")

OWN_NAMES = set(
    "len range enumerate zip min max sum abs sorted reversed int str bool bytes list tuple dict set isinstance ord repr"
    " any all divmod Exception ValueError TypeError KeyError IndexError LookupError ZeroDivisionError ArithmeticError"
    " OverflowError RuntimeError NotImplementedError AttributeError StopIteration".split()
)
METHODS = set(
    "append clear copy count endswith extend find get index insert isalnum isalpha isdigit islower isspace isupper items"
    " join keys ljust lower lstrip partition pop remove replace reverse rfind rjust rpartition rsplit rstrip setdefault"
    " split splitlines startswith strip update upper values zfill bit_length sort add discard title capitalize swapcase"
    " casefold center removeprefix removesuffix rindex isascii isdecimal isnumeric isidentifier isprintable"
    " __init__".split()
)
BARRED_WORDS = (
    "type typing typing_extensions enum Enum IntEnum StrEnum Flag IntFlag Generic Protocol ABC ABCMeta namedtuple"
    " NamedTuple TypedDict TYPE_CHECKING abstractmethod".split()
)
BARRED_NAMES = set(
    "register mro elements open input version_info with_traceback add_note attrgetter breakpoint builtins compile"
    " copyright credits delattr dir eval exec exit gc getattr globals hasattr help id importlib license locals"
    " methodcaller os quit setattr super type vars sys format format_map chr frozenset".split()
)
BARRED_NODES = (
    ast.GeneratorExp, ast.NamedExpr, ast.With, ast.Match, ast.Global, ast.Nonlocal, ast.Yield, ast.YieldFrom, ast.Await,
    ast.AsyncFunctionDef, ast.AsyncFor, ast.AsyncWith, ast.Import, ast.Div, ast.MatMult,
)


WALKED = {"zip", "enumerate", "reversed", "range", "items", "keys", "values"}
WALKERS = {"list", "tuple", "dict", "sorted", "sum", "any", "all", "enumerate", "zip", "min", "max"}


def package_files():
    return sorted(name for name in os.listdir(PACKAGE) if name != "__pycache__")


def read(name):
    with open(os.path.join(PACKAGE, name), encoding="utf-8", newline="") as file:
        return file.read()


def trees():
    return {name: ast.parse(read(name)) for name in package_files()}


def bound_names(tree):
    """All names that a file gives a meaning: defs, classes, imports, parameters, assigned names."""
    names = []
    for node in ast.walk(tree):
        if isinstance(node, (ast.FunctionDef, ast.ClassDef)):
            names.append(node.name)
        elif isinstance(node, ast.arg):
            names.append(node.arg)
        elif isinstance(node, ast.ImportFrom):
            names.extend(alias.asname or alias.name for alias in node.names)
        elif isinstance(node, ast.Name) and not isinstance(node.ctx, ast.Load):
            names.append(node.id)
        elif isinstance(node, ast.ExceptHandler) and node.name:
            names.append(node.name)
    return names


def top_names(tree):
    """The names that a file defines at its top."""
    names = []
    for node in tree.body:
        if isinstance(node, (ast.FunctionDef, ast.ClassDef)):
            names.append(node.name)
        elif isinstance(node, ast.Assign):
            names.extend(target.id for target in node.targets)
    return names


def drawn_from(tree):
    """The files from which a file draws, with the names drawn."""
    rows = [node for node in tree.body if isinstance(node, ast.ImportFrom)]
    return [(row.module, [alias.name for alias in row.names]) for row in rows]


def called(node):
    """The name of what is called, of a function or of a method; None of what is no call."""
    if not isinstance(node, ast.Call):
        return None
    return getattr(node.func, "id", getattr(node.func, "attr", None))


def walked_at_once(tree):
    """The nodes that are walked on the spot: by a loop, by a comprehension, or by what walks its first argument."""
    nodes = []
    for node in ast.walk(tree):
        if isinstance(node, (ast.For, ast.comprehension)):
            nodes.append(node.iter)
        elif called(node) in WALKERS and isinstance(node.func, ast.Name):
            nodes.extend(node.args[:1])
        elif called(node) == "zip":
            nodes.extend(node.args)
        elif called(node) in ("len", "reversed"):
            nodes.extend(arg for arg in node.args if called(arg) == "range")
    return nodes


def walked_names(tree):
    """The places at which the file calls what is to be walked at once and doesn't."""
    at_once = {id(node) for node in walked_at_once(tree)}
    return [node.lineno for node in ast.walk(tree) if called(node) in WALKED and id(node) not in at_once]


class TestForm(unittest.TestCase):
    def test_files(self):
        for name in package_files():
            with self.subTest(name):
                self.assertRegex(name, r"\A(__init__|__main__|[a-z][a-z0-9_]*)\.py\Z")
                self.assertFalse(hasattr(builtins, name[:-3]) and name != "__init__.py")
        self.assertIn("__init__.py", package_files())

    def test_signs_and_sizes(self):
        for name in package_files():
            text = read(name)
            with self.subTest(name):
                self.assertRegex(text, r"\A[ -~\n]*\Z")
                self.assertLessEqual(len(text.splitlines()), 400)
                self.assertLessEqual(max([0] + [len(line) for line in text.splitlines()]), 120)
                self.assertNotRegex(text, r"\b(" + "|".join(BARRED_WORDS) + r")\b")
                self.assertNotRegex(text, r"dataclass|overload|contextmanager")

    def test_defs_are_short_and_plain(self):
        for name, tree in trees().items():
            for node in ast.walk(tree):
                if isinstance(node, (ast.FunctionDef, ast.ClassDef)):
                    self.assertEqual(node.decorator_list, [], (name, node.name))
                if isinstance(node, ast.FunctionDef):
                    self.assertLessEqual(node.end_lineno - node.lineno + 1, 40, (name, node.name))
                    self.assertIsNone(node.args.vararg or node.args.kwarg, (name, node.name))
                    self.assertEqual(node.args.posonlyargs, [], (name, node.name))

    def test_statements_and_expressions(self):
        for name, tree in trees().items():
            for node in ast.walk(tree):
                where = (name, getattr(node, "lineno", None))
                self.assertNotIsInstance(node, BARRED_NODES, where)
                if isinstance(node, (ast.For, ast.While)):
                    self.assertEqual(node.orelse, [], where)
                if isinstance(node, ast.Constant):
                    self.assertNotIsInstance(node.value, (float, complex), where)
                if isinstance(node, ast.Compare) and any(isinstance(op, (ast.Is, ast.IsNot)) for op in node.ops):
                    self.assertIsInstance(node.comparators[0], ast.Constant, where)
                    self.assertIn(node.comparators[0].value, (None, True, False), where)
                if isinstance(node, ast.Call):
                    self.assertFalse(any(isinstance(arg, ast.Starred) for arg in node.args), where)

    def test_the_top_of_a_file(self):
        for name, tree in trees().items():
            self.assertIsNotNone(ast.get_docstring(tree), name)
            for node in tree.body[1:]:
                self.assertIsInstance(node, (ast.ImportFrom, ast.FunctionDef, ast.ClassDef, ast.Assign), name)
            names = top_names(tree) + [drawn for _, some in drawn_from(tree) for drawn in some]
            self.assertEqual(len(names), len(set(names)), name)

    def test_names(self):
        for name, tree in trees().items():
            for bound in bound_names(tree):
                if bound == "__init__":
                    continue
                self.assertTrue(re.fullmatch(r"[A-Za-z][A-Za-z0-9_]*", bound), (name, bound))
                self.assertFalse(hasattr(builtins, bound), (name, bound))
                self.assertNotIn(bound, BARRED_NAMES, name)

    def test_names_that_are_asked(self):
        for name, tree in trees().items():
            known = set(bound_names(tree)) | OWN_NAMES
            for node in ast.walk(tree):
                if isinstance(node, ast.Name):
                    self.assertIn(node.id, known, (name, node.lineno))

    def test_attributes(self):
        files = trees()
        stored = {
            node.attr for tree in files.values() for node in ast.walk(tree)
            if isinstance(node, ast.Attribute) and isinstance(node.ctx, ast.Store)
        }
        methods = {
            node.name for tree in files.values() for kind in ast.walk(tree) if isinstance(kind, ast.ClassDef)
            for node in kind.body if isinstance(node, ast.FunctionDef)
        }
        self.assertEqual(stored & methods, set())
        for name, tree in files.items():
            for node in ast.walk(tree):
                if isinstance(node, ast.Attribute):
                    self.assertIn(node.attr, METHODS | stored | methods, (name, node.lineno))

    def test_walked_at_once(self):
        for name, tree in trees().items():
            self.assertEqual(walked_names(tree), [], name)
        for kept in ("xs = zip(a, b)", "k in d.values()", "len(d.items())", "xs = [d.keys()]", "f(range(3))"):
            self.assertEqual(walked_names(ast.parse(kept)), [1], kept)

    def test_locals_are_not_called_like_imports_and_classes(self):
        for name, tree in trees().items():
            taken = [drawn for _, some in drawn_from(tree) for drawn in some]
            taken.extend(node.name for node in tree.body if isinstance(node, ast.ClassDef))
            self.assertEqual(sorted(set(taken)), sorted(bound for bound in bound_names(tree) if bound in taken), name)

    def test_imports(self):
        files = trees()
        drawn = {name: drawn_from(tree) for name, tree in files.items()}
        for name, rows in drawn.items():
            for module, names in rows:
                source = module.removeprefix("skewbooks.") + ".py"
                self.assertIn(source, files, (name, module))
                self.assertLessEqual(set(names), set(top_names(files[source])), (name, module))
        done = []
        while len(done) < len(files):
            ready = [
                name for name in files if name not in done
                and all(module.removeprefix("skewbooks.") + ".py" in done for module, _ in drawn[name])
            ]
            self.assertTrue(ready, "files that draw from one another")
            done.extend(ready)


if __name__ == "__main__":
    unittest.main()
