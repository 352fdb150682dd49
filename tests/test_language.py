"""The package keeps to the part of Python that is asked of it, as far as its syntax shows."""

import ast
import builtins
import pathlib
import re
import unittest

PACKAGE = pathlib.Path(__file__).resolve().parent.parent / "boxpages"

STATEMENTS = (
    ast.Assign, ast.AugAssign, ast.If, ast.While, ast.For, ast.Return, ast.Break, ast.Continue, ast.Pass, ast.Raise,
    ast.Try, ast.Expr, ast.FunctionDef, ast.ClassDef, ast.ImportFrom,
)
TOP = (ast.Expr, ast.ImportFrom, ast.FunctionDef, ast.ClassDef, ast.Assign)
NOT_USED = (
    ast.SetComp, ast.DictComp, ast.GeneratorExp, ast.NamedExpr, ast.Starred, ast.Div, ast.Await, ast.Yield,
    ast.YieldFrom, ast.MatMult,
)
OWN_NAMES = set(
    "len range enumerate zip min max sum abs sorted reversed int str bool list tuple dict set frozenset isinstance ord"
    " repr any all divmod Exception ValueError TypeError KeyError IndexError LookupError ZeroDivisionError"
    " ArithmeticError OverflowError RuntimeError NotImplementedError AttributeError StopIteration".split()
)
OWN_METHODS = set(
    "append clear copy count endswith extend find get index insert isalnum isalpha isdigit islower isspace isupper"
    " items join keys ljust lower lstrip partition pop remove replace reverse rfind rjust rpartition rsplit rstrip"
    " setdefault split splitlines startswith strip update upper values zfill bit_length".split()
)
TWO_UNDERSCORES = ("__init__", "__eq__", "__repr__", "__str__", "__len__")
UNUSED_WORDS = re.compile(
    r"\b(type|typing|typing_extensions|enum|Enum|IntEnum|StrEnum|Flag|IntFlag|Generic|Protocol|ABC|ABCMeta|namedtuple"
    r"|NamedTuple|TypedDict|TYPE_CHECKING|abstractmethod)\b|dataclass|overload|contextmanager"
)
UNUSED_NAMES = ("register", "mro", "elements", "open", "input", "version_info", "with_traceback", "add_note", "format")


def texts():
    return {path: path.read_text(encoding="utf-8") for path in sorted(PACKAGE.glob("*.py"))}


def trees():
    return {path: ast.parse(text) for path, text in texts().items()}


def nodes():
    return [(path.name, node) for path, tree in trees().items() for node in ast.walk(tree)]


def bound_names(node):
    """The names that this node gives: a def's and its parameters', a class's, or one that a value is given to."""
    if isinstance(node, ast.FunctionDef):
        return [node.name] + [parameter.arg for parameter in node.args.args]
    if isinstance(node, ast.Lambda):
        return [parameter.arg for parameter in node.args.args]
    if isinstance(node, ast.ClassDef):
        return [node.name]
    if isinstance(node, ast.Name) and isinstance(node.ctx, ast.Store):
        return [node.id]
    if isinstance(node, ast.Attribute) and isinstance(node.ctx, ast.Store):
        return [node.attr]
    return []


class Language(unittest.TestCase):
    def test_only_plain_files_lie_in_the_package(self):
        found = [path.name for path in PACKAGE.iterdir() if path.name != "__pycache__"]
        self.assertIn("__init__.py", found)
        for name in found:
            self.assertRegex(name, r"^([a-z][a-z0-9_]*|__init__|__main__)\.py$")

    def test_sizes_and_signs(self):
        for path, text in texts().items():
            rows = text.split("\n")
            self.assertLessEqual(len(rows) - 1, 400, path.name)
            self.assertLessEqual(max(map(len, rows)), 120, path.name)
            self.assertRegex(text, r"\A[ -~\n]*\Z", path.name)
            self.assertIsNone(UNUSED_WORDS.search(text), path.name)

    def test_functions_are_short_and_plain(self):
        for name, node in nodes():
            if isinstance(node, ast.FunctionDef):
                self.assertLessEqual(node.end_lineno - node.lineno + 1, 40, (name, node.name))
                self.assertEqual(node.decorator_list, [], (name, node.name))
                given = node.args
                self.assertFalse(given.vararg or given.kwarg or given.kwonlyargs or given.posonlyargs, (name, node.name))

    def test_statements_and_expressions(self):
        for path, tree in trees().items():
            for node in tree.body:
                self.assertIsInstance(node, TOP, (path.name, node.lineno))
        for name, node in nodes():
            if isinstance(node, ast.stmt):
                self.assertIsInstance(node, STATEMENTS, (name, node.lineno))
            self.assertNotIsInstance(node, NOT_USED, name)
            if isinstance(node, ast.Assign):
                self.assertEqual(len(node.targets), 1, (name, node.lineno))
            if isinstance(node, (ast.For, ast.While)):
                self.assertEqual(node.orelse, [], (name, node.lineno))
            if isinstance(node, ast.Constant):
                self.assertNotIsInstance(node.value, (float, complex, bytes), (name, node.lineno))

    def test_imports_are_the_packages_own(self):
        for name, node in nodes():
            if isinstance(node, ast.ImportFrom):
                self.assertEqual(node.level, 0, name)
                self.assertRegex(node.module, r"^boxpages\.[a-z_]+$", name)
                for part in node.names:
                    self.assertIsNone(part.asname, name)
                    self.assertNotEqual(part.name, "*", name)

    def test_names(self):
        own = set(dir(builtins))
        for name, node in nodes():
            for bound in bound_names(node):
                if bound not in TWO_UNDERSCORES:
                    self.assertRegex(bound, r"^[A-Za-z][A-Za-z0-9_]*$", name)
                self.assertNotIn(bound, own | set(UNUSED_NAMES), name)
            if isinstance(node, ast.Name) and node.id in own:
                self.assertIn(node.id, OWN_NAMES, (name, node.lineno))

    def test_methods(self):
        defined = {bound for name, node in nodes() for bound in bound_names(node)}
        for name, node in nodes():
            if isinstance(node, ast.Attribute):
                self.assertIn(node.attr, defined | OWN_METHODS, (name, node.lineno))

    def test_no_name_is_a_method_and_a_value(self):
        methods = set()
        for name, node in nodes():
            if isinstance(node, ast.ClassDef):
                methods.update(part.name for part in node.body if isinstance(part, ast.FunctionDef))
        for name, node in nodes():
            if isinstance(node, ast.Attribute) and isinstance(node.ctx, ast.Store):
                self.assertNotIn(node.attr, methods, (name, node.lineno))

    def test_locals_are_not_called_like_imports_or_classes(self):
        for path, tree in trees().items():
            taken = {part.name for node in tree.body if isinstance(node, ast.ImportFrom) for part in node.names}
            taken |= {node.name for node in tree.body if isinstance(node, ast.ClassDef)}
            for function in ast.walk(tree):
                if isinstance(function, ast.FunctionDef):
                    for node in ast.walk(function):
                        if not isinstance(node, ast.Attribute):
                            self.assertFalse(taken & set(bound_names(node)), (path.name, function.name))

    def test_imports_come_from_the_very_file_and_never_in_a_ring(self):
        drawn, defined = {}, {}
        for path, tree in trees().items():
            imports = [node for node in tree.body if isinstance(node, ast.ImportFrom)]
            drawn[path.stem] = {node.module.split(".")[1] for node in imports}
            named = {node.name for node in tree.body if isinstance(node, (ast.FunctionDef, ast.ClassDef))}
            defined[path.stem] = named | {
                node.targets[0].id for node in tree.body if isinstance(node, ast.Assign)
            }
        for path, tree in trees().items():
            for node in tree.body:
                if isinstance(node, ast.ImportFrom):
                    for part in node.names:
                        self.assertIn(part.name, defined[node.module.split(".")[1]], (path.name, part.name))
        while drawn:
            free = [name for name, others in drawn.items() if not others & set(drawn)]
            self.assertTrue(free, drawn)
            for name in free:
                drawn.pop(name)

    def test_walks_are_not_kept(self):
        """A walk stands behind an in, or is the first thing in a call that goes through it at once."""
        walks = ("zip", "enumerate", "reversed", "range")
        through = ("list", "tuple", "dict", "sorted", "sum", "any", "all", "enumerate", "zip", "min", "max")
        for path, tree in trees().items():
            allowed = set()
            for node in ast.walk(tree):
                if isinstance(node, (ast.For, ast.comprehension)):
                    allowed.add(node.iter)
                if isinstance(node, ast.Call) and isinstance(node.func, ast.Name) and node.func.id in through:
                    allowed.update(node.args[:1])
            for node in ast.walk(tree):
                if isinstance(node, ast.Call) and isinstance(node.func, ast.Name) and node.func.id in walks:
                    self.assertIn(node, allowed, (path.name, node.lineno))


if __name__ == "__main__":
    unittest.main()
