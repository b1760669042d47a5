"""Whether the package keeps to the plainest of the language's rules; what takes an eye is left to the reader."""

import ast
import builtins
import pathlib
import re
import unittest

FOLDER = pathlib.Path(__file__).resolve().parent.parent / "bestheads"
OWN_NAMES = set(
    "len range enumerate zip min max sum abs sorted reversed int str bool bytes list tuple dict set frozenset "
    "isinstance ord repr any all divmod Exception ValueError TypeError KeyError IndexError LookupError "
    "ZeroDivisionError ArithmeticError OverflowError RuntimeError NotImplementedError AttributeError "
    "StopIteration".split()
)
NO_WORDS = re.compile(
    r"\b(type|typing|typing_extensions|enum|Enum|IntEnum|StrEnum|Flag|IntFlag|Generic|Protocol|ABC|ABCMeta|namedtuple"
    r"|NamedTuple|TypedDict|TYPE_CHECKING|abstractmethod)\b|dataclass|overload|contextmanager"
)
NO_NAMES = set(
    "register mro elements open input version_info with_traceback add_note attrgetter breakpoint builtins compile "
    "copyright credits delattr dir eval exec exit gc getattr globals hasattr help id importlib license locals "
    "methodcaller os quit setattr super type vars sys chr print".split()
)
NO_NODES = (
    ast.With, ast.Global, ast.Nonlocal, ast.Yield, ast.YieldFrom, ast.Await, ast.AsyncFunctionDef, ast.AsyncFor,
    ast.AsyncWith, ast.GeneratorExp, ast.NamedExpr, ast.Div, ast.Import, ast.Match, ast.MatMult,
)
# Those of Python's own values that the rules list.
OWN_METHODS = set(
    "append clear copy count endswith extend find get index insert isalnum isalpha isdigit islower isspace isupper "
    "items join keys ljust lower lstrip partition pop remove replace reverse rfind rjust rpartition rsplit rstrip "
    "setdefault split splitlines startswith strip update upper values zfill bit_length isascii add discard".split()
)
TWO_UNDERSCORES = {"__init__", "__eq__", "__repr__", "__str__", "__len__"}


def sources():
    return [(path, path.read_text(encoding="utf-8")) for path in sorted(FOLDER.rglob("*.py"))]


def trees():
    return [(path, ast.parse(text)) for path, text in sources()]


def bound_names(tree):
    """All names that a file gives a meaning, wherever."""
    names = []
    for node in ast.walk(tree):
        if isinstance(node, (ast.FunctionDef, ast.ClassDef)):
            names.append(node.name)
        elif isinstance(node, ast.arg):
            names.append(node.arg)
        elif isinstance(node, ast.Name) and not isinstance(node.ctx, ast.Load):
            names.append(node.id)
        elif isinstance(node, ast.alias):
            names.append(node.asname or node.name)
        elif isinstance(node, ast.ExceptHandler) and node.name:
            names.append(node.name)
    return names


def top_names(tree):
    names = []
    for row in tree.body:
        if isinstance(row, (ast.FunctionDef, ast.ClassDef)):
            names.append(row.name)
        elif isinstance(row, ast.Assign):
            names += [target.id for target in row.targets]
        elif isinstance(row, ast.ImportFrom):
            names += [alias.asname or alias.name for alias in row.names]
    return names


class Language(unittest.TestCase):
    def test_nothing_but_python_files_lies_in_the_package(self):
        for path in FOLDER.rglob("*"):
            if "__pycache__" not in path.parts:
                self.assertRegex(path.name, r"^(__init__|[a-z][a-z0-9_]*)\.py$")

    def test_sizes_and_signs(self):
        for path, text in sources():
            self.assertRegex(text, r"\A[\n -~]*\Z", path)
            self.assertLessEqual(len(text.splitlines()), 400, path)
            self.assertLessEqual(max(map(len, text.splitlines())), 120, path)
            self.assertIsNone(NO_WORDS.search(text), path)

    def test_functions_are_short_plain_and_undecorated(self):
        for path, tree in trees():
            for node in ast.walk(tree):
                if isinstance(node, (ast.FunctionDef, ast.ClassDef)):
                    self.assertEqual([], node.decorator_list, path)
                if isinstance(node, ast.FunctionDef):
                    self.assertLessEqual(node.end_lineno - node.lineno + 1, 40, node.name)
                    self.assertIsNone(node.args.vararg or node.args.kwarg, node.name)
                    self.assertEqual([], node.args.posonlyargs, node.name)

    def test_statements_and_expressions(self):
        for path, tree in trees():
            for node in ast.walk(tree):
                self.assertNotIsInstance(node, NO_NODES, path)
                if isinstance(node, ast.Constant):
                    self.assertNotIsInstance(node.value, (float, complex), path)
                    self.assertNotIn("%", str(node.value), path)
                if isinstance(node, (ast.For, ast.While)):
                    self.assertEqual([], node.orelse, path)
                if isinstance(node, ast.Compare):
                    for sign, right in zip(node.ops, node.comparators):
                        if isinstance(sign, (ast.Is, ast.IsNot)):
                            self.assertIn(ast.unparse(right), ("None", "True", "False"), path)

    def test_names(self):
        for path, tree in trees():
            for name in bound_names(tree):
                if name not in TWO_UNDERSCORES:
                    self.assertRegex(name, r"^[A-Za-z][A-Za-z0-9_]*$", path)
                    self.assertFalse(hasattr(builtins, name), (path, name))
                self.assertNotIn(name, NO_NAMES, path)

    def test_no_local_is_called_like_a_class_or_an_import(self):
        for path, tree in trees():
            rows = [row for row in tree.body if isinstance(row, (ast.ImportFrom, ast.ClassDef))]
            taken = top_names(ast.Module(rows, []))
            for node in ast.walk(tree):
                if isinstance(node, (ast.FunctionDef, ast.Lambda)):
                    inner = [part for part in ast.walk(node) if part is not node]
                    self.assertFalse(set(taken) & set(bound_names(ast.Module(inner, []))), path)

    def test_methods_and_values_of_objects(self):
        methods, given, asked = set(), set(), set()
        for path, tree in trees():
            for node in ast.walk(tree):
                if isinstance(node, ast.ClassDef):
                    rows = [row for row in node.body if isinstance(row, ast.FunctionDef)]
                    methods |= {row.name for row in rows}
                    inner = [part for row in rows for part in ast.walk(row) if isinstance(part, ast.Attribute)]
                    given |= {part.attr for part in inner if isinstance(part.ctx, ast.Store)}
                if isinstance(node, ast.Attribute):
                    asked.add(node.attr)
        self.assertEqual(set(), methods & given)
        self.assertEqual(set(), (methods | given) & OWN_METHODS)
        self.assertEqual(set(), asked - methods - given - OWN_METHODS)

    def test_of_pythons_own_names_only_the_listed_ones_are_used(self):
        for path, tree in trees():
            known = OWN_NAMES | set(bound_names(tree))
            for node in ast.walk(tree):
                if isinstance(node, ast.Name):
                    self.assertIn(node.id, known, path)

    def test_imports_come_from_the_file_that_defines_the_name(self):
        for path, tree in trees():
            for node in ast.walk(tree):
                if isinstance(node, ast.ImportFrom):
                    self.assertIn(node, tree.body, path)
                    self.assertEqual(0, node.level, path)
                    package, file = node.module.split(".")
                    self.assertEqual("bestheads", package, path)
                    source = ast.parse((FOLDER / (file + ".py")).read_text(encoding="utf-8"))
                    own = top_names(ast.Module([row for row in source.body if not isinstance(row, ast.ImportFrom)], []))
                    for alias in node.names:
                        self.assertIn(alias.name, own, path)

    def test_each_name_of_a_files_top_is_bound_once(self):
        for path, tree in trees():
            names = top_names(tree)
            self.assertEqual(len(names), len(set(names)), path)


if __name__ == "__main__":
    unittest.main()
