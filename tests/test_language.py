"""The package's files held to the part of Python that the program keeps to, as far as a test can see it."""

import ast
import builtins
import pathlib
import re
import unittest

PACKAGE = pathlib.Path(__file__).resolve().parent.parent / "grammarsight"
OWN_NAMES = set(
    "len range enumerate zip min max sum abs sorted reversed int str bool list tuple dict set frozenset isinstance "
    "ord repr any all divmod Exception ValueError TypeError KeyError IndexError LookupError ZeroDivisionError "
    "ArithmeticError OverflowError RuntimeError NotImplementedError AttributeError StopIteration".split()
)
OWN_METHODS = set(
    "append clear copy count endswith extend find get index insert isalnum isalpha isdigit islower isspace isupper "
    "items join keys ljust lower lstrip partition pop remove replace reverse rfind rjust rpartition rsplit rstrip "
    "setdefault split splitlines startswith strip update upper values zfill bit_length".split()
)
NODES = tuple(
    getattr(ast, name)
    for name in (
        "Module ImportFrom alias FunctionDef arguments arg ClassDef Assign AugAssign If While For Return Break Continue "
        "Pass Raise Try ExceptHandler Expr Name Constant List Tuple Dict BinOp UnaryOp BoolOp Compare IfExp Call "
        "Attribute Subscript Slice ListComp comprehension JoinedStr FormattedValue Lambda keyword operator unaryop "
        "boolop cmpop expr_context Set"
    ).split()
)
NO_WORDS = re.compile(
    r"\b(type|typing|typing_extensions|enum|Enum|IntEnum|StrEnum|Flag|IntFlag|Generic|Protocol|ABC|ABCMeta|namedtuple"
    r"|NamedTuple|TypedDict|TYPE_CHECKING|abstractmethod)\b|dataclass|overload|contextmanager"
)
NO_NAMES = set("register mro elements open input version_info with_traceback add_note format format_map sys".split())
WALKED = set("zip enumerate reversed range".split())
WALKERS = set("list tuple dict sorted sum any all enumerate zip min max".split())


def bound_names(tree):
    for node in ast.walk(tree):
        if isinstance(node, (ast.FunctionDef, ast.ClassDef)):
            yield node.name
        elif isinstance(node, ast.arg):
            yield node.arg
        elif isinstance(node, ast.Name) and isinstance(node.ctx, ast.Store):
            yield node.id
        elif isinstance(node, ast.Attribute):
            yield node.attr


def locals_of(function):
    for node in ast.walk(function):
        if isinstance(node, ast.arg):
            yield node.arg
        elif isinstance(node, ast.Name) and isinstance(node.ctx, ast.Store):
            yield node.id


def top_names(tree):
    for node in tree.body:
        if isinstance(node, ast.ImportFrom):
            yield from (alias.name for alias in node.names)
        elif isinstance(node, (ast.FunctionDef, ast.ClassDef)):
            yield node.name
        elif isinstance(node, ast.Assign):
            yield node.targets[0].id


def drawn_from(tree):
    return {node.module for node in tree.body if isinstance(node, ast.ImportFrom)}


class Language(unittest.TestCase):
    def setUp(self):
        self.texts = {path: path.read_text("utf-8") for path in sorted(PACKAGE.glob("*.py"))}
        self.trees = {path: ast.parse(text) for path, text in self.texts.items()}
        self.nodes = [(path.name, node) for path, tree in self.trees.items() for node in ast.walk(tree)]

    def test_files(self):
        names = [path.name for path in PACKAGE.iterdir() if path.name != "__pycache__"]
        self.assertIn("__init__.py", names)
        self.assertIn("seen.py", names)
        for name in names:
            self.assertRegex(name, r"^(__init__|[a-z][a-z0-9_]*)\.py$")

    def test_signs_words_and_sizes(self):
        for path, text in self.texts.items():
            self.assertRegex(text, r"\A[ -~\n]*\Z", path.name)
            self.assertIsNone(NO_WORDS.search(text), path.name)
            self.assertLessEqual(len(text.splitlines()), 400, path.name)
            self.assertLessEqual(max(len(line) for line in text.splitlines()), 120, path.name)

    def test_functions_are_small(self):
        for name, node in self.nodes:
            if isinstance(node, ast.FunctionDef):
                self.assertLessEqual(node.end_lineno - node.lineno + 1, 40, (name, node.name))
                self.assertEqual(node.decorator_list, [])
                self.assertIsNone(node.args.vararg or node.args.kwarg or node.returns)
                self.assertEqual(node.args.kwonlyargs, [])

    def test_only_the_allowed_forms(self):
        for name, node in self.nodes:
            self.assertIsInstance(node, NODES, (name, ast.dump(node)))
            if isinstance(node, (ast.For, ast.While)):
                self.assertEqual(node.orelse, [])
            if isinstance(node, ast.Try):
                self.assertEqual(node.finalbody, [])
            if isinstance(node, ast.Assign):
                self.assertEqual(len(node.targets), 1)
            if isinstance(node, ast.ListComp):
                self.assertEqual(len(node.generators), 1)
                self.assertLessEqual(len(node.generators[0].ifs), 1)
            if isinstance(node, ast.Constant):
                self.assertIsInstance(node.value, (int, str, type(None)))
                self.assertNotIn("%", str(node.value))
            if isinstance(node, (ast.Div, ast.Pow, ast.MatMult)):
                self.fail((name, ast.dump(node)))
            if isinstance(node, ast.Compare) and any(isinstance(op, (ast.Is, ast.IsNot)) for op in node.ops):
                self.assertEqual(len(node.ops), 1, (name, ast.dump(node)))
                self.assertIsInstance(node.comparators[0], ast.Constant, (name, ast.dump(node)))
                self.assertIn(node.comparators[0].value, (None, True, False), (name, ast.dump(node)))
            if isinstance(node, ast.ExceptHandler):
                self.assertIsNotNone(node.type)

    def test_expressions_by_themselves_are_calls(self):
        for path, tree in self.trees.items():
            self.assertIsNotNone(ast.get_docstring(tree), path.name)
            for node in ast.walk(tree):
                if isinstance(node, ast.Expr) and node is not tree.body[0]:
                    self.assertIsInstance(node.value, ast.Call, (path.name, node.lineno))

    def test_imports(self):
        drawn = {f"grammarsight.{path.stem}": drawn_from(tree) for path, tree in self.trees.items()}
        self.assertEqual(drawn["grammarsight.__init__"], set())
        for path, tree in self.trees.items():
            for node in ast.walk(tree):
                if isinstance(node, ast.ImportFrom):
                    self.assertIn(node, tree.body)
                    self.assertIn(node.module, drawn)
                    source = self.trees[PACKAGE / (node.module.split(".")[1] + ".py")]
                    for alias in node.names:
                        self.assertIsNone(alias.asname)
                        self.assertIn(alias.name, set(top_names(source)) - drawn_from(source))
        while drawn:
            free = [name for name in drawn if not drawn[name] & set(drawn)]
            self.assertTrue(free, "files draw from one another")
            drawn = {name: drawn[name] for name in drawn if name not in free}

    def test_names(self):
        for path, tree in self.trees.items():
            tops = list(top_names(tree))
            self.assertEqual(len(tops), len(set(tops)), path.name)
            for name in bound_names(tree):
                self.assertRegex(name, r"^([A-Za-z][A-Za-z0-9_]*|__init__)$", path.name)
                self.assertNotIn(name, NO_NAMES, path.name)
            for node in ast.walk(tree):
                if isinstance(node, ast.FunctionDef):
                    for name in locals_of(node):
                        self.assertNotIn(name, tops, (path.name, node.name))
                        self.assertNotIn(name, dir(builtins), (path.name, node.name))
                if isinstance(node, ast.Name) and isinstance(node.ctx, ast.Load) and hasattr(builtins, node.id):
                    self.assertIn(node.id, OWN_NAMES, path.name)

    def test_methods(self):
        own = {
            node.name
            for tree in self.trees.values()
            for kind in ast.walk(tree) if isinstance(kind, ast.ClassDef)
            for node in kind.body if isinstance(node, ast.FunctionDef)
        }
        for name, node in self.nodes:
            if isinstance(node, ast.Call) and isinstance(node.func, ast.Attribute):
                self.assertIn(node.func.attr, OWN_METHODS | own, name)
            if isinstance(node, ast.Attribute) and isinstance(node.ctx, ast.Store):
                self.assertNotIn(node.attr, own, name)

    def test_walked_on_the_spot(self):
        for name, tree in self.trees.items():
            fit = set()
            for node in ast.walk(tree):
                if isinstance(node, (ast.For, ast.comprehension)):
                    fit.add(node.iter)
                if isinstance(node, ast.Call) and isinstance(node.func, ast.Name) and node.func.id in WALKERS:
                    fit.update(node.args[:1])
            for node in ast.walk(tree):
                if isinstance(node, ast.Call) and isinstance(node.func, ast.Name) and node.func.id in WALKED:
                    self.assertIn(node, fit, (name, node.lineno))


if __name__ == "__main__":
    unittest.main()
