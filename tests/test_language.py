"""The package's files keep to the small part of Python that the project is written in."""

import ast
import builtins
import re
import unittest
from pathlib import Path

PACKAGE = Path(__file__).resolve().parent.parent / "keptgroupings"
FILES = sorted(PACKAGE.rglob("*.py"))

STATEMENTS = (
    ast.Assign, ast.AugAssign, ast.If, ast.While, ast.For, ast.Return, ast.Break, ast.Continue, ast.Pass, ast.Raise,
    ast.Try, ast.Expr, ast.FunctionDef, ast.ClassDef, ast.ImportFrom,
)
EXPRESSIONS = (
    ast.BoolOp, ast.BinOp, ast.UnaryOp, ast.IfExp, ast.Dict, ast.Set, ast.ListComp, ast.Compare, ast.Call,
    ast.JoinedStr, ast.FormattedValue, ast.Constant, ast.Attribute, ast.Subscript, ast.Name, ast.List, ast.Tuple,
    ast.Slice, ast.Lambda,
)
BUILT_IN = """
len range enumerate zip min max sum abs sorted reversed int str bool list tuple dict set frozenset isinstance ord
repr any all divmod Exception ValueError TypeError KeyError IndexError LookupError ZeroDivisionError
""".split()
METHODS = """
append clear copy count endswith extend find get index insert isalnum isalpha isdigit islower isspace isupper items
join keys ljust lower lstrip partition pop remove replace reverse rfind rjust rpartition rsplit rstrip setdefault
split splitlines startswith strip update upper values zfill bit_length __init__
""".split()
WORDS_OUT = re.compile(
    r"\b(type|typing|typing_extensions|enum|Enum|IntEnum|StrEnum|Flag|IntFlag|Generic|Protocol|ABC|ABCMeta|namedtuple"
    r"|NamedTuple|TypedDict|TYPE_CHECKING|abstractmethod)\b|dataclass|overload|contextmanager"
)


def parsed(path):
    return ast.parse(path.read_text(encoding="ascii"))


TREES = [(path, parsed(path)) for path in FILES]


def names_bound(tree):
    """Functions, classes, parameters, locals and imports, each by its name."""
    found = []
    for node in ast.walk(tree):
        if isinstance(node, (ast.FunctionDef, ast.ClassDef)):
            found.append(node.name)
        elif isinstance(node, ast.arg):
            found.append(node.arg)
        elif isinstance(node, ast.Name) and isinstance(node.ctx, ast.Store):
            found.append(node.id)
        elif isinstance(node, ast.alias):
            found.append(node.name)
        elif isinstance(node, ast.ExceptHandler) and node.name:
            found.append(node.name)
    return found


def names_at_top(tree):
    """What a file's top binds, each as often as it does."""
    found = []
    for node in tree.body:
        if isinstance(node, (ast.FunctionDef, ast.ClassDef)):
            found.append(node.name)
        elif isinstance(node, ast.ImportFrom):
            found.extend(alias.name for alias in node.names)
        elif isinstance(node, ast.Assign):
            found.extend(target.id for target in node.targets)
    return found


def own_methods():
    return {node.name for path, tree in TREES for owner in ast.walk(tree) if isinstance(owner, ast.ClassDef)
            for node in owner.body if isinstance(node, ast.FunctionDef)}


class Language(unittest.TestCase):
    def test_there_are_files(self):
        self.assertIn(PACKAGE / "__init__.py", FILES)
        self.assertIn(PACKAGE / "tables.py", FILES)

    def test_nothing_else_lies_in_the_package(self):
        there = {path for path in PACKAGE.rglob("*") if "__pycache__" not in path.parts}
        self.assertEqual(there, set(FILES))

    def test_signs_and_sizes(self):
        for path in FILES:
            with self.subTest(file=path.name):
                text = path.read_bytes()
                self.assertEqual({byte for byte in text if byte != 10 and not 32 <= byte <= 126}, set())
                rows = text.split(b"\n")
                self.assertLess(len(rows), 400)
                self.assertLessEqual(max(len(row) for row in rows), 120)

    def test_functions_are_small_and_plain(self):
        for path, tree in TREES:
            for node in ast.walk(tree):
                if isinstance(node, ast.FunctionDef):
                    self.assertLessEqual(node.end_lineno - node.lineno + 1, 40, node.name)
                    self.assertEqual(node.decorator_list, [], node.name)
                    self.assertIsNone(node.args.vararg or node.args.kwarg, node.name)
                    self.assertEqual(node.args.kwonlyargs + node.args.posonlyargs, [], node.name)

    def test_statements_and_expressions(self):
        for path, tree in TREES:
            for node in ast.walk(tree):
                if isinstance(node, ast.stmt):
                    self.assertIsInstance(node, STATEMENTS, ast.dump(node)[:80])
                if isinstance(node, ast.expr):
                    self.assertIsInstance(node, EXPRESSIONS, ast.dump(node)[:80])
                if isinstance(node, (ast.For, ast.While)):
                    self.assertEqual(node.orelse, [])
                if isinstance(node, ast.Try):
                    self.assertEqual(node.finalbody, [])
                if isinstance(node, ast.Assign):
                    self.assertEqual(len(node.targets), 1)
                if isinstance(node, ast.Constant):
                    self.assertNotIsInstance(node.value, (float, bytes, complex))
                if isinstance(node, ast.BinOp):
                    self.assertNotIsInstance(node.op, (ast.Div, ast.Pow, ast.MatMult))

    def test_texts_are_filled_with_plain_names(self):
        for path, tree in TREES:
            for node in ast.walk(tree):
                if isinstance(node, ast.FormattedValue):
                    self.assertIsInstance(node.value, ast.Name, path.name)
                    self.assertIn(node.conversion, (-1, ord("r")), path.name)
                    self.assertIsNone(node.format_spec, path.name)

    def test_comprehensions_are_short(self):
        for path, tree in TREES:
            for node in ast.walk(tree):
                if isinstance(node, ast.ListComp):
                    self.assertEqual(len(node.generators), 1, path.name)
                    self.assertLessEqual(len(node.generators[0].ifs), 1, path.name)

    def test_a_name_is_bound_once_at_a_files_top(self):
        for path, tree in TREES:
            bound = names_at_top(tree)
            self.assertEqual(len(bound), len(set(bound)), path.name)

    def test_no_parameter_or_local_is_called_like_a_name_of_its_files_top(self):
        for path, tree in TREES:
            at_top = set(names_at_top(tree))
            for owner in tree.body:
                if isinstance(owner, (ast.FunctionDef, ast.ClassDef)):
                    within = set(names_bound(owner)) - {owner.name}
                    self.assertEqual(within & at_top, set(), f"{path.name}, {owner.name}")

    def test_no_name_is_a_method_and_a_value(self):
        stored = {node.attr for path, tree in TREES for node in ast.walk(tree)
                  if isinstance(node, ast.Attribute) and isinstance(node.ctx, ast.Store)}
        self.assertEqual(stored & own_methods(), set())

    def test_names(self):
        for path, tree in TREES:
            for name in names_bound(tree):
                if name != "__init__":
                    self.assertRegex(name, r"\A[A-Za-z][A-Za-z0-9_]*\Z")
                self.assertNotIn(name, dir(builtins), path.name)

    def test_pythons_own_names(self):
        for path, tree in TREES:
            known = set(names_bound(tree)) | set(BUILT_IN)
            for node in ast.walk(tree):
                if isinstance(node, ast.Name):
                    self.assertIn(node.id, known, path.name)

    def test_methods(self):
        allowed = own_methods() | set(METHODS)
        for path, tree in TREES:
            for node in ast.walk(tree):
                if isinstance(node, ast.Call) and isinstance(node.func, ast.Attribute):
                    self.assertIn(node.func.attr, allowed, path.name)

    def test_words_that_stand_nowhere(self):
        for path in FILES:
            with self.subTest(file=path.name):
                self.assertIsNone(WORDS_OUT.search(path.read_text(encoding="ascii")))

    def test_imports_are_the_packages_own_and_go_one_way(self):
        drawn = {}
        for path, tree in TREES:
            modules = [node.module for node in ast.walk(tree) if isinstance(node, ast.ImportFrom)]
            for module in modules:
                self.assertRegex(module, r"\Akeptgroupings\.[a-z]+\Z")
            drawn[path.stem] = {module.split(".")[1] for module in modules}
        self.assertEqual(drawn["__init__"], set())
        while drawn:
            free = [name for name in drawn if not drawn[name] & set(drawn)]
            self.assertTrue(free, drawn)
            for name in free:
                drawn.pop(name)

    def test_the_interface_stands_in_its_own_file_alone(self):
        holders = [path.name for path, tree in TREES for node in tree.body
                   if isinstance(node, (ast.FunctionDef, ast.ClassDef)) and node.name == "answers"]
        self.assertEqual(holders, ["tables.py"])
