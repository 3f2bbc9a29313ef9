"""The form of the package's files: the rules of LANGUAGE.md that can be seen in a file."""

import ast
import builtins
import pathlib
import re
import unittest

PACKAGE = pathlib.Path(__file__).resolve().parent.parent / "oncedoor"

# L6 and L7: all that may stand in a file.
NODES = """
    Module FunctionDef ClassDef arguments arg ImportFrom alias Expr Assign AugAssign If While For Return Break
    Continue Pass Raise Try ExceptHandler Call keyword Lambda IfExp BoolOp And Or BinOp Add Sub Mult FloorDiv Mod
    Pow BitAnd BitOr BitXor LShift RShift UnaryOp Not USub UAdd Invert Compare Eq NotEq Lt LtE Gt GtE Is IsNot In
    NotIn Name Load Store Attribute Subscript Slice Constant List Tuple Dict Set ListComp comprehension JoinedStr
    FormattedValue
""".split()

# L8, but for chr, which L27 leaves out.
OWN_OF_PYTHON = """
    len range enumerate zip min max sum abs sorted reversed int str bool list tuple dict set frozenset isinstance
    ord repr any all divmod Exception ValueError TypeError KeyError IndexError LookupError ZeroDivisionError
    ArithmeticError OverflowError RuntimeError NotImplementedError AttributeError StopIteration
""".split()

# L25.
METHODS = """
    append clear copy count endswith extend find get index insert isalnum isalpha isdigit islower isspace isupper
    items join keys ljust lower lstrip partition pop remove replace reverse rfind rjust rpartition rsplit rstrip
    setdefault split splitlines startswith strip update upper values zfill bit_length
""".split()

# L5.
SPECIAL = ("__init__", "__eq__", "__repr__", "__str__", "__len__")

# L17.
NOWHERE = re.compile(
    r"\b(type|typing|typing_extensions|enum|Enum|IntEnum|StrEnum|Flag|IntFlag|Generic|Protocol|ABC|ABCMeta"
    r"|namedtuple|NamedTuple|TypedDict|TYPE_CHECKING|abstractmethod)\b|dataclass|overload|contextmanager"
)
UNUSED = """
    register mro elements open input version_info with_traceback add_note attrgetter breakpoint builtins compile
    copyright credits delattr dir eval exec exit gc getattr globals hasattr help id importlib license locals
    methodcaller os quit setattr super type vars sys format format_map
""".split()

FILES = {path.stem: path.read_text(encoding="utf-8") for path in sorted(PACKAGE.glob("*.py"))}
TREES = {name: ast.parse(text) for name, text in FILES.items()}


def nodes(*kinds):
    """Pairs (place, node) of all nodes of these kinds in the package."""
    return [
        (f"{name}.py:{getattr(node, 'lineno', 0)}", node)
        for name, tree in TREES.items() for node in ast.walk(tree) if isinstance(node, kinds)
    ]


def bound_at_the_top(tree):
    """The names that a file binds at its top, imports left out."""
    defs = [node.name for node in tree.body if isinstance(node, (ast.FunctionDef, ast.ClassDef))]
    return defs + [node.targets[0].id for node in tree.body if isinstance(node, ast.Assign)]


def is_plain(node):
    """Whether a node is a plain value, or a list, tuple or dict of such."""
    parts = getattr(node, "elts", None)
    if isinstance(node, ast.Dict):
        parts = node.keys + node.values
    return isinstance(node, ast.Constant) if parts is None else all(is_plain(part) for part in parts)


class Form(unittest.TestCase):

    def holds(self, place, held):
        with self.subTest(place):
            self.assertTrue(held)

    def test_files(self):
        for path in PACKAGE.iterdir():
            if path.name != "__pycache__":
                self.holds(path.name, path.is_file() and re.fullmatch(r"[a-z][a-z0-9_]*\.py|__init__\.py", path.name))
                self.holds(path.name, not path.stem.startswith("test") and path.stem not in dir(builtins))
        self.assertIn("__init__", FILES)

    def test_signs_and_sizes(self):
        for name, text in FILES.items():
            self.holds(name, re.fullmatch(r"[ -~\n]*", text))
            self.holds(name, len(text.splitlines()) <= 400)
            self.holds(name, max(len(line) for line in text.splitlines()) <= 120)
            self.holds(name, not NOWHERE.search(text))
        for place, node in nodes(ast.FunctionDef):
            self.holds(place, node.end_lineno - node.lineno < 40)

    def test_what_may_stand_in_a_file(self):
        for place, node in nodes(ast.AST):
            self.holds(place, type(node).__name__ in NODES)
        for place, node in nodes(ast.Constant):
            self.holds(place, node.value is None or isinstance(node.value, (bool, int, str)))
            self.holds(place, "\x25" not in str(node.value))
        for place, node in nodes(ast.For, ast.While):
            self.holds(place, not node.orelse)
        for place, node in nodes(ast.Assign):
            self.holds(place, len(node.targets) == 1)
        for place, node in nodes(ast.ListComp):
            self.holds(place, len(node.generators) == 1 and len(node.generators[0].ifs) <= 1)

    def test_the_top_of_a_file(self):
        for name, tree in TREES.items():
            self.holds(name, ast.get_docstring(tree))
            for node in tree.body[1:]:
                value = isinstance(node, ast.Assign) and is_plain(node.value)
                self.holds(name, value or isinstance(node, (ast.ImportFrom, ast.FunctionDef, ast.ClassDef)))
            bound = bound_at_the_top(tree)
            self.holds(name, len(bound) == len(set(bound)))

    def test_imports(self):
        drawn = {name: [] for name in TREES}
        for name, tree in TREES.items():
            for node in [node for node in ast.walk(tree) if isinstance(node, ast.ImportFrom)]:
                self.holds(name, node in tree.body and node.level == 0 and node.module.startswith("oncedoor."))
                source = node.module.partition(".")[2]
                drawn[name].append(source)
                for alias in node.names:
                    self.holds(name, alias.name in bound_at_the_top(TREES[source]))
        self.assertEqual(drawn["__init__"], [])
        while drawn:
            free = [name for name in drawn if not any(source in drawn for source in drawn[name])]
            self.assertTrue(free, f"these draw from one another: {sorted(drawn)}")
            for name in free:
                del drawn[name]

    def test_functions_and_classes(self):
        for place, node in nodes(ast.FunctionDef, ast.Lambda):
            given = node.args
            self.holds(place, not (given.vararg or given.kwarg or given.kwonlyargs or given.posonlyargs))
            self.holds(place, all(is_plain(default) for default in given.defaults))
        for place, node in nodes(ast.FunctionDef, ast.ClassDef):
            self.holds(place, not node.decorator_list)
        for place, node in nodes(ast.ClassDef):
            self.holds(place, len(node.bases) <= 1 and not node.keywords)
            docstring = node.body[1:] if ast.get_docstring(node) else node.body
            self.holds(place, all(isinstance(part, ast.FunctionDef) for part in docstring))

    def test_names(self):
        own = [name for tree in TREES.values() for name in bound_at_the_top(tree)]
        for place, node in nodes(ast.Name):
            self.holds(place, not node.id.startswith("_") and node.id not in UNUSED)
            if isinstance(node.ctx, ast.Store):
                self.holds(place, node.id not in dir(builtins))
            self.holds(place, node.id in OWN_OF_PYTHON or node.id in own or node.id not in dir(builtins))
        for place, node in nodes(ast.arg):
            self.holds(place, node.arg not in dir(builtins) and not node.arg.startswith("_"))
        for place, node in nodes(ast.FunctionDef, ast.ClassDef):
            self.holds(place, not node.name.startswith("_") or node.name in SPECIAL)
            self.holds(place, node.name not in UNUSED)

    def test_locals_are_not_called_like_classes_or_imports(self):
        for name, tree in TREES.items():
            taken = [node.name for node in tree.body if isinstance(node, ast.ClassDef)]
            for node in [node for node in tree.body if isinstance(node, ast.ImportFrom)]:
                taken += [alias.name for alias in node.names]
            local = [node.arg for node in ast.walk(tree) if isinstance(node, ast.arg)]
            local += [node.id for node in ast.walk(tree) if isinstance(node, ast.Name) and isinstance(node.ctx, ast.Store)]
            self.holds(name, not set(taken) & set(local))

    def test_methods_and_values(self):
        own = [part.name for place, node in nodes(ast.ClassDef) for part in node.body if isinstance(part, ast.FunctionDef)]
        values = [node.attr for place, node in nodes(ast.Attribute) if isinstance(node.ctx, ast.Store)]
        self.assertEqual(set(own) & set(values), set())
        for place, node in nodes(ast.Attribute):
            self.holds(place, node.attr in own + values + METHODS + list(SPECIAL) and node.attr not in UNUSED)

    def test_is_stands_beside_none_and_truths(self):
        for place, node in nodes(ast.Compare):
            for sign, right in zip(node.ops, node.comparators):
                if isinstance(sign, (ast.Is, ast.IsNot)):
                    self.holds(place, isinstance(right, ast.Constant) and isinstance(right.value, (bool, type(None))))

    def test_refusals(self):
        own = [node.name for place, node in nodes(ast.ClassDef)]
        for place, node in nodes(ast.Raise):
            self.holds(place, isinstance(node.exc, ast.Call) and node.exc.func.id in own)
        for place, node in nodes(ast.ExceptHandler):
            self.holds(place, isinstance(node.type, ast.Name) and node.type.id in own + ["KeyError", "ZeroDivisionError"])
        for place, node in nodes(ast.Try):
            self.holds(place, not node.finalbody)

    def test_what_stands_at_a_file_s_top_is_only_read(self):
        changing = "append clear extend insert pop remove reverse setdefault update".split()
        for name, tree in TREES.items():
            kept = [node.targets[0].id for node in tree.body if isinstance(node, ast.Assign)]
            for node in [node for node in tree.body if isinstance(node, ast.Assign)]:
                lists = [part for part in ast.walk(node.value) if isinstance(part, (ast.List, ast.Dict))]
                self.holds(name, all(part is node.value for part in lists))
            for node in ast.walk(tree):
                if isinstance(node, (ast.Attribute, ast.Subscript)) and getattr(node.value, "id", None) in kept:
                    self.holds(name, isinstance(node.ctx, ast.Load) and getattr(node, "attr", None) not in changing)

    def test_what_is_walked_at_once_is_not_kept(self):
        walked = "zip enumerate reversed range items keys values".split()
        takers = "list tuple dict sorted sum any all enumerate zip min max".split()
        free = [node.iter for place, node in nodes(ast.For, ast.comprehension)]
        for place, node in nodes(ast.Call):
            if getattr(node.func, "id", None) in takers or getattr(node.func, "attr", None) == "join":
                free += node.args
        for place, node in nodes(ast.Call):
            if getattr(node.func, "id", getattr(node.func, "attr", None)) in walked:
                self.holds(place, node in free)


if __name__ == "__main__":
    unittest.main()
