"""The part of Python that the package keeps to, as far as a short look at its files can tell."""

import ast
import pathlib
import re
import unittest

PACKAGE = pathlib.Path(__file__).parent.parent / "widewords"
FILES = sorted(PACKAGE.glob("**/*.py"))
WORDS = re.compile(
    r"\b(type|typing|typing_extensions|enum|Enum|IntEnum|StrEnum|Flag|IntFlag|Generic|Protocol|ABC|ABCMeta|namedtuple"
    r"|NamedTuple|TypedDict|TYPE_CHECKING|abstractmethod)\b|dataclass|overload|contextmanager")
LEFT_OUT = (
    ast.With, ast.Match, ast.Global, ast.Nonlocal, ast.Yield, ast.YieldFrom, ast.Await, ast.AsyncFunctionDef,
    ast.AsyncFor, ast.AsyncWith, ast.GeneratorExp, ast.NamedExpr, ast.Div, ast.Import, ast.TryStar,
)
# The methods of Python's own values that the package may call.
OWN_METHODS = set("""
    append clear copy count endswith extend find get index insert isalnum isalpha isdigit islower isspace isupper items
    join keys ljust lower lstrip partition pop remove replace reverse rfind rjust rpartition rsplit rstrip setdefault
    split splitlines startswith strip update upper values zfill bit_length removeprefix removesuffix""".split())
OWN_NAMES = {
    "len", "range", "enumerate", "zip", "min", "max", "sum", "abs", "sorted", "reversed", "int", "str", "bool", "bytes",
    "list", "tuple", "dict", "set", "frozenset", "isinstance", "ord", "repr", "any", "all", "divmod", "Exception",
    "ValueError", "KeyError", "IndexError", "LookupError", "ZeroDivisionError", "StopIteration",
}


class LanguageTest(unittest.TestCase):
    def test_nothing_else_lies_in_the_package(self):
        others = [path for path in PACKAGE.glob("**/*") if path.is_file() and "__pycache__" not in path.parts]
        self.assertEqual(sorted(others), FILES)

    def test_sizes_and_signs(self):
        for path in FILES:
            text = path.read_bytes().decode("ascii")
            self.assertTrue(all(" " <= sign <= "~" or sign == "\n" for sign in text), path)
            lines = text.splitlines()
            self.assertLessEqual(len(lines), 400, path)
            self.assertLessEqual(max(len(line) for line in lines), 120, path)
            self.assertIsNone(WORDS.search(text), path)

    def test_forms(self):
        for path in FILES:
            for node in ast.walk(ast.parse(path.read_text())):
                where = (path.name, getattr(node, "lineno", 0))
                self.assertNotIsInstance(node, LEFT_OUT, where)
                if isinstance(node, ast.FunctionDef):
                    self.assertLessEqual(node.end_lineno - node.lineno + 1, 40, where)
                    self.assertFalse(node.decorator_list or node.args.vararg or node.args.kwarg, where)
                if isinstance(node, ast.ImportFrom):
                    self.assertTrue(node.level == 0 and node.module.startswith("widewords."), where)
                if isinstance(node, ast.Constant):
                    self.assertNotIsInstance(node.value, (float, complex), where)
                if isinstance(node, ast.BinOp) and isinstance(node.op, ast.Pow):
                    self.assertIsInstance(node.right, ast.Constant, where)

    def test_names(self):
        builtin = set(dir(__builtins__)) if not isinstance(__builtins__, dict) else set(__builtins__)
        for path in FILES:
            for node in ast.walk(ast.parse(path.read_text())):
                bound = isinstance(node, ast.Name) and not isinstance(node.ctx, ast.Load)
                name = node.id if isinstance(node, ast.Name) else getattr(node, "arg", getattr(node, "name", None))
                if isinstance(name, str) and name != "__init__" and not isinstance(node, ast.keyword):
                    self.assertFalse(name.startswith("_"), (path.name, name))
                    if isinstance(node, ast.Name) and not bound:
                        self.assertTrue(name not in builtin or name in OWN_NAMES, (path.name, name))
                    else:
                        self.assertNotIn(name, builtin, path.name)

    def test_own_names(self):
        """L15 and L16: nothing in a def is called like an import or a class of its file, and no files go in a ring."""
        drawn_from = {}
        for path in FILES:
            tree = ast.parse(path.read_text())
            imports = [node for node in ast.walk(tree) if isinstance(node, ast.ImportFrom)]
            drawn_from[path.stem] = {node.module.split(".")[1] for node in imports}
            taken = {alias.name for node in imports for alias in node.names}
            taken |= {node.name for node in tree.body if isinstance(node, ast.ClassDef)}
            for node in ast.walk(tree):
                name = node.arg if isinstance(node, ast.arg) else getattr(node, "id", None)
                if isinstance(node, ast.arg) or isinstance(getattr(node, "ctx", None), ast.Store):
                    self.assertNotIn(name, taken, path.name)
            for node in imports:
                owner = ast.parse((PACKAGE / f"{node.module.split('.')[1]}.py").read_text())
                bound = {getattr(each, "name", None) for each in owner.body}
                bound |= {target.id for each in owner.body if isinstance(each, ast.Assign) for target in each.targets}
                self.assertLessEqual({alias.name for alias in node.names}, bound, path.name)
        while drawn_from:
            free = [name for name, others in drawn_from.items() if not others & set(drawn_from)]
            self.assertTrue(free, drawn_from)
            for name in free:
                del drawn_from[name]

    def test_methods_and_values(self):
        """L18, L25 and L26: a name is a method or a value of objects, and none that Python's own values have."""
        nodes = [node for path in FILES for node in ast.walk(ast.parse(path.read_text()))]
        classes = [node for node in nodes if isinstance(node, ast.ClassDef)]
        attributes = [node for node in nodes if isinstance(node, ast.Attribute)]
        methods = {each.name for node in classes for each in node.body if isinstance(each, ast.FunctionDef)}
        values = {node.attr for node in attributes if isinstance(node.ctx, ast.Store)}
        self.assertFalse(methods & values)
        for own in (str, int, list, tuple, dict, set, bytes, ValueError):
            self.assertFalse((methods - {"__init__"} | values) & set(dir(own)), own)
        self.assertLessEqual({node.attr for node in attributes}, methods | values | OWN_METHODS)
        for node in attributes:
            if isinstance(node.ctx, ast.Store):
                self.assertIsInstance(node.value, ast.Name)
