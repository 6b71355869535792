"""Holds the package's files against those rules of LANGUAGE.md that can be seen file by file."""

import ast
import builtins
import re
import unittest
from pathlib import Path

PACKAGE = Path(__file__).resolve().parent.parent / "inflate"

OWN_NAMES = """len range enumerate zip min max sum abs sorted reversed int str bool list tuple dict set frozenset
isinstance ord repr any all divmod Exception ValueError TypeError KeyError IndexError LookupError ZeroDivisionError
ArithmeticError OverflowError RuntimeError NotImplementedError AttributeError StopIteration""".split()
OWN_METHODS = """append clear copy count endswith extend find get index insert isalnum isalpha isdigit islower isspace
isupper items join keys ljust lower lstrip partition pop remove replace reverse rfind rjust rpartition rsplit rstrip
setdefault split splitlines startswith strip update upper values zfill bit_length""".split()
WALKED = "zip enumerate reversed range items keys values".split()
WALKERS = "list tuple dict sorted sum any all enumerate zip min max join".split()
KEYWORDS = {"sorted": ("key", "reverse"), "min": ("key", "default"), "max": ("key", "default"), "sum": ("start",),
            "enumerate": ("start",), "zip": ("strict",)}
UNDERSCORED = ("__init__", "__eq__", "__repr__", "__str__", "__len__")
NODES = """Module FunctionDef ClassDef Return Assign AugAssign For While If Raise Try ImportFrom alias Expr Pass Break
Continue ExceptHandler arguments arg keyword BoolOp And Or BinOp Add Sub Mult FloorDiv Mod Pow BitAnd BitOr BitXor
LShift RShift UnaryOp Not USub Invert Lambda IfExp Dict ListComp comprehension Compare Eq NotEq Lt LtE Gt GtE Is IsNot
In NotIn Call JoinedStr FormattedValue Constant Attribute Subscript Slice Name List Tuple Load Store""".split()
UNUSED_NAMES = "register mro elements open input version_info with_traceback add_note format format_map chr".split()
BANNED_WORDS = re.compile(
    r"\b(type|typing|typing_extensions|enum|Enum|IntEnum|StrEnum|Flag|IntFlag|Generic|Protocol|ABC|ABCMeta|namedtuple"
    r"|NamedTuple|TypedDict|TYPE_CHECKING|abstractmethod)\b|dataclass|overload|contextmanager")


def files():
    return sorted(path for path in PACKAGE.rglob("*") if path.is_file() and "__pycache__" not in path.parts)


def trees():
    return [(path, ast.parse(path.read_text(encoding="utf-8"))) for path in files()]


def nodes(*kinds):
    return [(path, node) for path, tree in trees() for node in ast.walk(tree) if isinstance(node, kinds)]


def called(node):
    return getattr(node.func, "id", getattr(node.func, "attr", None))


def bound_at_top(tree):
    names = []
    for node in tree.body:
        if isinstance(node, (ast.FunctionDef, ast.ClassDef)):
            names.append(node.name)
        elif isinstance(node, ast.Assign):
            names += [target.id for target in node.targets]
        elif isinstance(node, ast.ImportFrom):
            names += [alias.name for alias in node.names]
    return names


class LanguageTest(unittest.TestCase):
    def each(self, rule, found):
        """Each of the found rows (path, node, whether it keeps to the rule) must keep to it."""
        for path, node, right in found:
            self.assertTrue(right, f"{rule}: {path.name}:{getattr(node, 'lineno', 0)}")

    def test_files(self):
        self.assertTrue((PACKAGE / "__init__.py").is_file())
        for path in files():
            self.assertRegex(path.name, r"^([a-z][a-z0-9_]*|__init__)\.py$", "L1")
            self.assertNotRegex(path.stem, r"^(tests?|testing|test_.*|site|conftest|(site|user)customize)$", "L14")
            self.assertFalse(hasattr(builtins, path.stem) and path.stem != "__init__", "L14")

    def test_signs_and_size(self):
        for path in files():
            text = path.read_bytes().decode("utf-8")
            self.assertRegex(text, r"\A[ -~\n]*\Z", f"L14 {path.name}")
            self.assertIsNone(BANNED_WORDS.search(text), f"L17 {path.name}")
            lines = text.split("\n")
            self.assertLessEqual(len(lines), 400, f"L10 {path.name}")
            self.assertLessEqual(max(len(line) for line in lines), 120, f"L10 {path.name}")
        self.each("L10", [(path, node, node.end_lineno - node.lineno < 40)
                          for path, node in nodes(ast.FunctionDef)])

    def test_imports(self):
        tops = {"inflate." + path.stem: bound_at_top(tree) for path, tree in trees()}
        draws = {module: [] for module in tops}
        for path, node in nodes(ast.ImportFrom):
            self.assertIn(node.module, tops, f"L2 {path.name}")
            draws["inflate." + path.stem].append(node.module)
            self.each("L16", [(path, node, node.level == 0 and alias.asname is None and alias.name in tops[node.module])
                              for alias in node.names])
        while draws:
            free = [module for module in draws if not any(other in draws for other in draws[module])]
            self.assertTrue(free, f"L16: files that draw from one another: {sorted(draws)}")
            draws = {module: draws[module] for module in draws if module not in free}

    def test_nodes(self):
        self.each("L6 L7", [(path, node, node.__class__.__name__ in NODES) for path, node in nodes(ast.AST)])
        self.each("L6", [(path, node, not node.orelse) for path, node in nodes(ast.For, ast.While)])
        self.each("L6", [(path, node, not node.finalbody) for path, node in nodes(ast.Try)])
        self.each("L6", [(path, node, len(node.targets) == 1 and not isinstance(node.targets[0], ast.Tuple))
                         for path, node in nodes(ast.Assign)])
        self.each("L7", [(path, node, node.value is None or isinstance(node.value, (int, str)))
                         for path, node in nodes(ast.Constant)])
        self.each("L7", [(path, node, len(node.generators) == 1 and len(node.generators[0].ifs) < 2)
                         for path, node in nodes(ast.ListComp)])
        self.each("L20", [(path, node, isinstance(right, ast.Constant) and right.value in (None, True, False))
                          for path, node in nodes(ast.Compare) for how, right in zip(node.ops, node.comparators)
                          if isinstance(how, (ast.Is, ast.IsNot))])
        self.each("L27", [(path, node, isinstance(node.right, ast.Constant) and 0 <= node.right.value <= 64)
                          for path, node in nodes(ast.BinOp) if isinstance(node.op, ast.Pow)])
        self.each("L7", [(path, node, isinstance(node.value, ast.Name) and node.format_spec is None)
                         for path, node in nodes(ast.FormattedValue)])
        self.each("L27", [(path, node, "%" not in node.value)
                          for path, node in nodes(ast.Constant) if isinstance(node.value, str)])

    def test_statements_of_their_own(self):
        for path, tree in trees():
            inner = [node for top in tree.body[1:] for node in ast.walk(top) if isinstance(node, ast.Expr)]
            self.each("L6", [(path, node, isinstance(node.value, ast.Call)) for node in inner])

    def test_walked_at_once(self):
        for path, tree in trees():
            walked = [node.iter for node in ast.walk(tree) if isinstance(node, (ast.For, ast.comprehension))]
            walked += [node.args[0] for node in ast.walk(tree)
                       if isinstance(node, ast.Call) and called(node) in WALKERS and node.args]
            self.each("L23", [(path, node, any(node is other for other in walked)) for node in ast.walk(tree)
                              if isinstance(node, ast.Call) and called(node) in WALKED])

    def test_sets_and_keywords_and_errors(self):
        self.each("L24", [(path, node, called(node) not in ("set", "frozenset")) for path, node in nodes(ast.Call)])
        self.each("L22", [(path, node, keyword.arg in KEYWORDS.get(called(node), ()))
                          for path, node in nodes(ast.Call) for keyword in node.keywords])
        self.each("L19", [(path, node, isinstance(node.exc, ast.Call)) for path, node in nodes(ast.Raise)])
        self.each("L19", [(path, node, isinstance(node.type, ast.Name)) for path, node in nodes(ast.ExceptHandler)])

    def test_top_lists_and_dicts_hold_none(self):
        for path, tree in trees():
            values = [node.value for node in tree.body if isinstance(node, ast.Assign)]
            inner = [part for value in values for part in ast.walk(value) if part is not value]
            self.each("L15", [(path, node, not isinstance(node, (ast.List, ast.Dict, ast.Call))) for node in inner])
            self.each("L3", [(path, node, not isinstance(node, ast.Call)) for node in values])

    def test_tops(self):
        for path, tree in trees():
            names = bound_at_top(tree)
            self.assertEqual(len(names), len(set(names)), f"L15 {path.name}")
            self.assertIsNotNone(ast.get_docstring(tree), f"L3 {path.name}")
            kinds = (ast.ImportFrom, ast.FunctionDef, ast.ClassDef, ast.Assign)
            self.each("L3", [(path, node, isinstance(node, kinds)) for node in tree.body[1:]])

    def test_functions_and_classes(self):
        self.each("L4", [(path, node, not (node.args.vararg or node.args.kwarg or node.args.kwonlyargs
                                           or node.args.posonlyargs or node.decorator_list or node.returns))
                         for path, node in nodes(ast.FunctionDef)])
        self.each("L5", [(path, node, len(node.bases) < 2 and not node.keywords and not node.decorator_list)
                         for path, node in nodes(ast.ClassDef)])
        self.each("L5", [(path, part, isinstance(part, (ast.FunctionDef, ast.Pass)))
                         for path, node in nodes(ast.ClassDef) for part in node.body])

    def test_names(self):
        self.each("L12", [(path, node, not node.id.startswith("_")) for path, node in nodes(ast.Name)])
        self.each("L12", [(path, node, not node.arg.startswith("_") and node.annotation is None)
                          for path, node in nodes(ast.arg)])
        self.each("L12", [(path, node, not node.name.startswith("_") or node.name in UNDERSCORED)
                          for path, node in nodes(ast.FunctionDef, ast.ClassDef)])
        self.each("L8", [(path, node, node.id in OWN_NAMES) for path, node in nodes(ast.Name)
                         if isinstance(node.ctx, ast.Load) and hasattr(builtins, node.id)])
        self.each("L17", [(path, node, name not in UNUSED_NAMES)
                          for path, node in nodes(ast.Name, ast.Attribute, ast.FunctionDef, ast.arg)
                          for name in [getattr(node, key, None) for key in ("id", "attr", "name", "arg")]])

    def test_locals_take_no_other_name(self):
        for path, tree in trees():
            taken = [name for node in tree.body if isinstance(node, ast.ImportFrom) for name in
                     [alias.name for alias in node.names]]
            taken += [node.name for node in tree.body if isinstance(node, ast.ClassDef)]
            local = [(node, node.arg) for node in ast.walk(tree) if isinstance(node, ast.arg)]
            local += [(node, node.id) for node in ast.walk(tree)
                      if isinstance(node, ast.Name) and isinstance(node.ctx, ast.Store)]
            self.each("L15", [(path, node, name not in taken and not hasattr(builtins, name)) for node, name in local])

    def test_methods_and_values(self):
        methods = [part.name for path, node in nodes(ast.ClassDef) for part in node.body
                   if isinstance(part, ast.FunctionDef)]
        values = [node.attr for path, node in nodes(ast.Attribute) if isinstance(node.ctx, ast.Store)]
        self.assertEqual(sorted(set(methods) & set(values)), [], "L18")
        self.each("L25", [(path, node, node.func.attr in methods + OWN_METHODS)
                          for path, node in nodes(ast.Call) if isinstance(node.func, ast.Attribute)])


if __name__ == "__main__":
    unittest.main()
