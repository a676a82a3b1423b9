"""The package keeps to the small part of Python: the rules of LANGUAGE.md that can be seen from a file alone."""

import ast
import builtins
import pathlib
import re
import unittest

PACKAGE = pathlib.Path(__file__).resolve().parent.parent / "setsays"
FILES = sorted(PACKAGE.rglob("*.py"))

# L8, without chr (L27) and print (no __main__.py is there).
OWN_NAMES = set(
    "len range enumerate zip min max sum abs sorted reversed int str bool list tuple dict set frozenset isinstance ord"
    " repr any all divmod Exception ValueError TypeError KeyError IndexError LookupError ZeroDivisionError"
    " ArithmeticError OverflowError RuntimeError NotImplementedError AttributeError StopIteration".split()
)
# L25.
OWN_METHODS = set(
    "append clear copy count endswith extend find get index insert isalnum isalpha isdigit islower isspace isupper"
    " items join keys ljust lower lstrip partition pop remove replace reverse rfind rjust rpartition rsplit rstrip"
    " setdefault split splitlines startswith strip update upper values zfill bit_length".split()
)
# L17.
BARRED_WORDS = re.compile(
    r"\b(type|typing|typing_extensions|enum|Enum|IntEnum|StrEnum|Flag|IntFlag|Generic|Protocol|ABC|ABCMeta|namedtuple"
    r"|NamedTuple|TypedDict|TYPE_CHECKING|abstractmethod)\b|dataclass|overload|contextmanager"
)
# L4 to L7 and L21, by the names of Python's own ast.
BARRED_NODES = (
    "With Match Delete Global Nonlocal Assert AsyncFunctionDef AsyncFor AsyncWith Await Yield YieldFrom NamedExpr"
    " Starred SetComp DictComp GeneratorExp Div MatMult Import AnnAssign TryStar TypeAlias"
).split()
METHODS_WITH_UNDERSCORES = ("__init__", "__eq__", "__repr__", "__str__", "__len__")


def bound_names(tree):
    """Every name that a file binds anywhere."""
    names = set()
    for node in ast.walk(tree):
        if isinstance(node, ast.Name) and isinstance(node.ctx, ast.Store):
            names.add(node.id)
        elif isinstance(node, (ast.FunctionDef, ast.ClassDef)):
            names.add(node.name)
        elif isinstance(node, ast.arg):
            names.add(node.arg)
        elif isinstance(node, ast.alias):
            names.add(node.asname or node.name)
        elif isinstance(node, ast.ExceptHandler) and node.name:
            names.add(node.name)
    return names


def top_names(part):
    """The names that a part of a file's top binds there."""
    if isinstance(part, ast.ImportFrom):
        return [alias.name for alias in part.names]
    if isinstance(part, ast.Assign):
        return [target.id for target in part.targets]
    return [part.name] if isinstance(part, (ast.FunctionDef, ast.ClassDef)) else []


def methods_of(tree):
    classes = [node for node in ast.walk(tree) if isinstance(node, ast.ClassDef)]
    return {part.name for node in classes for part in node.body if isinstance(part, ast.FunctionDef)}


class LanguageTest(unittest.TestCase):

    def walk(self):
        for path in FILES:
            text = path.read_text(encoding="utf-8")
            yield path, text, ast.parse(text)

    def test_there_are_files_and_nothing_else(self):
        self.assertIn(PACKAGE / "__init__.py", FILES)
        for path in PACKAGE.rglob("*"):
            if "__pycache__" not in path.parts:
                self.assertIn(path, FILES)
                self.assertRegex(path.name, r"^(__init__|__main__|[a-z][a-z0-9_]*)\.py$")
                self.assertNotIn(path.stem, vars(builtins))

    def test_signs_and_sizes(self):
        for path, text, tree in self.walk():
            with self.subTest(path.name):
                self.assertEqual([sign for sign in text if sign != "\n" and not " " <= sign <= "~"], [])
                self.assertLessEqual(len(text.splitlines()), 400)
                self.assertLessEqual(max([len(line) for line in text.splitlines()]), 120)
                self.assertIsNone(BARRED_WORDS.search(text))
                for node in ast.walk(tree):
                    if isinstance(node, ast.FunctionDef):
                        self.assertLessEqual(node.end_lineno - node.lineno + 1, 40, node.name)

    def test_statements_and_values(self):
        for path, text, tree in self.walk():
            for node in ast.walk(tree):
                with self.subTest(path=path.name, node=ast.dump(node)[:80]):
                    self.assertNotIn(node.__class__.__name__, BARRED_NODES)
                    if isinstance(node, (ast.For, ast.While)):
                        self.assertEqual(node.orelse, [])
                    if isinstance(node, ast.Assign):
                        self.assertEqual(len(node.targets), 1)
                    if isinstance(node, ast.Constant):
                        self.assertIn(node.value.__class__, (int, str, bool, None.__class__))
                    if isinstance(node, ast.ListComp):
                        self.assertEqual(len(node.generators), 1)
                        self.assertLessEqual(len(node.generators[0].ifs), 1)
                    if isinstance(node, (ast.FunctionDef, ast.ClassDef)):
                        self.assertEqual(node.decorator_list, [])
                    if isinstance(node, ast.arguments):
                        self.assertFalse(node.vararg or node.kwarg or node.kwonlyargs or node.posonlyargs)

    def test_narrower_forms(self):
        for path, text, tree in self.walk():
            for node in ast.walk(tree):
                with self.subTest(path=path.name, node=ast.dump(node)[:80]):
                    if isinstance(node, ast.Compare) and any(isinstance(op, (ast.Is, ast.IsNot)) for op in node.ops):
                        self.assertIn(ast.unparse(node.comparators[-1]), ("None", "True", "False"))
                    if isinstance(node, ast.BinOp) and isinstance(node.op, ast.Pow):
                        self.assertIsInstance(node.right, ast.Constant)
                    if isinstance(node, ast.Constant) and isinstance(node.value, str):
                        self.assertNotIn(chr(37), node.value)
                    if isinstance(node, ast.FormattedValue):
                        self.assertIsInstance(node.value, ast.Name)
                    if isinstance(node, ast.FunctionDef):
                        self.assertIsNone(node.returns)
                    if isinstance(node, ast.arg):
                        self.assertIsNone(node.annotation)
                    if isinstance(node, ast.ExceptHandler):
                        self.assertNotIn(ast.unparse(node.type), ("Exception", "TypeError"))
                    if isinstance(node, ast.ClassDef):
                        self.assertLessEqual(len(node.bases), 1)
                        for part in node.body:
                            self.assertIsInstance(part, (ast.FunctionDef, ast.Expr))

    def test_sets_are_not_kept(self):
        for path, text, tree in self.walk():
            calls = [node for node in ast.walk(tree) if isinstance(node, ast.Call) and isinstance(node.func, ast.Name)]
            straight = [part for call in calls if call.func.id in ("sorted", "len") for part in call.args]
            for call in calls:
                if call.func.id in ("set", "frozenset"):
                    self.assertIn(call, straight, path.name)

    def test_no_two_files_draw_from_one_another(self):
        drawn = {}
        for path, text, tree in self.walk():
            sources = [node.module for node in ast.walk(tree) if isinstance(node, ast.ImportFrom)]
            drawn["setsays." + path.stem] = sources
        while drawn:
            free = [name for name in drawn if not any(source in drawn for source in drawn[name])]
            self.assertNotEqual(free, [], drawn)
            for name in free:
                drawn.pop(name)

    def test_imports_are_of_the_package_from_the_file_that_defines_the_name(self):
        for path, text, tree in self.walk():
            for node in ast.walk(tree):
                if isinstance(node, ast.ImportFrom) and node.module != "__future__":
                    with self.subTest(path=path.name, line=node.lineno):
                        self.assertEqual(node.level, 0)
                        self.assertIn(node, tree.body)
                        self.assertTrue(node.module.startswith("setsays."))
                        source = PACKAGE / (node.module[len("setsays."):].replace(".", "/") + ".py")
                        own = ast.parse(source.read_text(encoding="utf-8")).body
                        kept = [part for part in own if not isinstance(part, ast.ImportFrom)]
                        defined = bound_names(ast.Module(kept, []))
                        for alias in node.names:
                            self.assertIn(alias.name, defined)

    def test_no_local_is_called_like_what_stands_at_the_top(self):
        for path, text, tree in self.walk():
            with self.subTest(path.name):
                top = [name for part in tree.body for name in top_names(part)]
                self.assertEqual(len(top), len(set(top)))
                drawn = [name for part in tree.body if isinstance(part, (ast.ImportFrom, ast.ClassDef))
                         for name in top_names(part)]
                for part in tree.body:
                    if isinstance(part, (ast.FunctionDef, ast.ClassDef)):
                        inner = bound_names(part) - {part.name}
                        self.assertEqual([name for name in sorted(inner) if name in drawn], [])

    def test_names(self):
        own_methods = set()
        for path, text, tree in self.walk():
            own_methods |= methods_of(tree)
        for path, text, tree in self.walk():
            bound = bound_names(tree)
            with self.subTest(path.name):
                self.assertEqual([name for name in sorted(bound) if name in vars(builtins)], [])
                underscored = [name for name in sorted(bound) if name.startswith("_")]
                self.assertEqual([name for name in underscored if name not in METHODS_WITH_UNDERSCORES], [])
                for node in ast.walk(tree):
                    if isinstance(node, ast.Name) and node.id not in bound:
                        self.assertIn(node.id, OWN_NAMES)
                    if isinstance(node, ast.Call) and isinstance(node.func, ast.Attribute):
                        self.assertIn(node.func.attr, OWN_METHODS | own_methods)


if __name__ == "__main__":
    unittest.main()
