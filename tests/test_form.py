"""The package's form, as far as a walk over its text and its tree of syntax can tell it."""

import ast
import builtins
import pathlib
import re
import unittest

PACKAGE = pathlib.Path(__file__).resolve().parent.parent / "oddcoin"

NODES = (
    ast.Module, ast.Expr, ast.ImportFrom, ast.alias, ast.FunctionDef, ast.arguments, ast.arg, ast.ClassDef, ast.Lambda,
    ast.Assign, ast.AugAssign, ast.If, ast.While, ast.For, ast.Return, ast.Break, ast.Continue, ast.Pass, ast.Raise,
    ast.Try, ast.ExceptHandler, ast.Constant, ast.List, ast.Tuple, ast.Dict, ast.BinOp, ast.UnaryOp, ast.BoolOp,
    ast.Compare, ast.IfExp, ast.Call, ast.keyword, ast.Attribute, ast.Subscript, ast.Slice, ast.ListComp,
    ast.comprehension, ast.JoinedStr, ast.FormattedValue, ast.Name, ast.expr_context, ast.boolop, ast.operator,
    ast.unaryop, ast.cmpop,
)

OWN_NAMES = set("""
    len range enumerate zip min max sum abs sorted reversed int str bool list tuple dict set frozenset isinstance ord
    repr any all divmod Exception ValueError TypeError KeyError IndexError LookupError ZeroDivisionError
    ArithmeticError OverflowError RuntimeError NotImplementedError AttributeError StopIteration
""".split())

METHODS = set("""
    append clear copy count endswith extend find get index insert isalnum isalpha isdigit islower isspace isupper items
    join keys ljust lower lstrip partition pop remove replace reverse rfind rjust rpartition rsplit rstrip setdefault
    split splitlines startswith strip update upper values zfill bit_length
""".split())

TWO_UNDERSCORES = {"__init__", "__eq__", "__repr__", "__str__", "__len__"}

WORDS = re.compile(
    r"\b(type|typing|typing_extensions|enum|Enum|IntEnum|StrEnum|Flag|IntFlag|Generic|Protocol|ABC|ABCMeta|namedtuple"
    r"|NamedTuple|TypedDict|TYPE_CHECKING|abstractmethod)\b|dataclass|overload|contextmanager"
)


def files():
    return sorted(path for path in PACKAGE.rglob("*") if path.is_file() and "__pycache__" not in path.parts)


def trees():
    return [(path.name, ast.parse(path.read_text())) for path in files()]


def nodes(kind):
    return [(name, node) for name, tree in trees() for node in ast.walk(tree) if isinstance(node, kind)]


def bound_names(tree):
    found = set()
    for node in ast.walk(tree):
        if isinstance(node, (ast.FunctionDef, ast.ClassDef)):
            found.add(node.name)
        elif isinstance(node, ast.arg):
            found.add(node.arg)
        elif isinstance(node, ast.alias):
            found.add(node.name)
        elif isinstance(node, ast.Name) and isinstance(node.ctx, ast.Store):
            found.add(node.id)
        elif isinstance(node, ast.ExceptHandler) and node.name:
            found.add(node.name)
    return found


class Texts(unittest.TestCase):
    def test_plain_files_alone(self):
        self.assertTrue((PACKAGE / "__init__.py").is_file())
        for path in files():
            self.assertRegex(path.name, r"\A[a-z_][a-z0-9_]*\.py\Z")
            self.assertFalse(path.stem in dir(builtins) or path.stem.startswith("test"), path)

    def test_signs_and_sizes(self):
        for path in files():
            text = path.read_text(encoding="utf-8")
            self.assertRegex(text, r"\A[ -~\n]*\Z", path)
            self.assertLessEqual(len(text.split("\n")), 400, path)
            self.assertLessEqual(max(len(row) for row in text.split("\n")), 120, path)

    def test_words_that_stand_nowhere(self):
        for path in files():
            self.assertIsNone(WORDS.search(path.read_text()), path)


class Syntax(unittest.TestCase):
    def test_kinds_of_nodes(self):
        for name, node in nodes(ast.AST):
            self.assertIsInstance(node, NODES, (name, getattr(node, "lineno", 0)))
            self.assertNotIsInstance(node, (ast.Div, ast.MatMult), name)

    def test_values(self):
        for name, node in nodes(ast.Constant):
            self.assertIsInstance(node.value, (int, str, type(None)), (name, node.lineno))
            self.assertNotIn("%", str(node.value), (name, node.lineno))

    def test_texts_by_themselves_only_at_the_top(self):
        for name, tree in trees():
            for node in ast.walk(tree):
                if isinstance(node, ast.Expr) and node is not tree.body[0]:
                    self.assertIsInstance(node.value, ast.Call, (name, node.lineno))

    def test_imports_of_own_names_only(self):
        for name, node in nodes(ast.ImportFrom):
            self.assertTrue(node.level == 0 and node.module.startswith("oddcoin."), (name, node.lineno))
            source = (PACKAGE / (node.module.split(".")[1] + ".py")).read_text()
            for alias in node.names:
                self.assertIsNone(alias.asname, (name, node.lineno))
                self.assertRegex(source, r"(?m)^((def|class) )?%s\b" % alias.name, (name, node.lineno))

    def test_defs(self):
        for name, node in nodes(ast.FunctionDef):
            given = node.args
            self.assertFalse(node.decorator_list or given.vararg or given.kwarg or given.kwonlyargs, node.name)
            self.assertFalse(given.posonlyargs, node.name)
            self.assertLessEqual(node.end_lineno - node.lineno + 1, 40, (name, node.name))

    def test_classes(self):
        for name, node in nodes(ast.ClassDef):
            self.assertTrue(len(node.bases) <= 1 and not node.keywords and not node.decorator_list, node.name)
            for part in node.body:
                self.assertIsInstance(part, (ast.FunctionDef, ast.Pass), (name, part.lineno))

    def test_loops_assignments_and_tests(self):
        for name, node in nodes((ast.For, ast.While)):
            self.assertEqual(node.orelse, [], (name, node.lineno))
        for name, node in nodes(ast.Assign):
            self.assertEqual(len(node.targets), 1, (name, node.lineno))
        for name, node in nodes(ast.ListComp):
            self.assertTrue(len(node.generators) == 1 and len(node.generators[0].ifs) <= 1, (name, node.lineno))
        for name, node in nodes(ast.Try):
            self.assertEqual(node.finalbody, [], (name, node.lineno))

    def test_names(self):
        for name, tree in trees():
            bound = bound_names(tree)
            self.assertEqual(bound & set(dir(builtins)), bound & TWO_UNDERSCORES & set(dir(builtins)), name)
            for word in bound - TWO_UNDERSCORES:
                self.assertRegex(word, r"\A[A-Za-z][A-Za-z0-9_]*\Z", name)
            for node in ast.walk(tree):
                if isinstance(node, ast.Name):
                    self.assertIn(node.id, bound | OWN_NAMES, (name, node.lineno))

    def test_methods(self):
        own = {node.name for name, node in nodes(ast.FunctionDef)}
        for name, node in nodes(ast.Call):
            if isinstance(node.func, ast.Attribute):
                self.assertIn(node.func.attr, METHODS | own, (name, node.lineno))

    def test_locals_are_not_called_like_imports_or_classes(self):
        for name, tree in trees():
            top = {alias.name for node in tree.body if isinstance(node, ast.ImportFrom) for alias in node.names}
            top |= {node.name for node in tree.body if isinstance(node, ast.ClassDef)}
            for node in ast.walk(tree):
                if isinstance(node, ast.arg):
                    self.assertNotIn(node.arg, top, (name, node.lineno))
                elif isinstance(node, ast.Name) and isinstance(node.ctx, ast.Store):
                    self.assertNotIn(node.id, top, (name, node.lineno))

    def test_no_name_is_a_method_and_a_value(self):
        methods = {part.name for name, node in nodes(ast.ClassDef) for part in node.body if hasattr(part, "name")}
        values = {node.attr for name, node in nodes(ast.Attribute) if isinstance(node.ctx, ast.Store)}
        self.assertEqual(methods & values, set())
        taken = set().union(*(dir(kind) for kind in (str, int, list, dict, set, bytes)))
        self.assertEqual((methods - TWO_UNDERSCORES | values) & taken, set())

    def test_no_powers_and_is_beside_plain_values_alone(self):
        for name, node in nodes(ast.BinOp):
            self.assertNotIsInstance(node.op, ast.Pow, (name, node.lineno))
        for name, node in nodes(ast.Compare):
            if any(isinstance(operator, (ast.Is, ast.IsNot)) for operator in node.ops):
                self.assertIsInstance(node.comparators[0], ast.Constant, (name, node.lineno))

    def test_errors_taken_are_the_programs_own(self):
        own = {node.name for name, node in nodes(ast.ClassDef) if name == "errors.py"}
        for name, node in nodes(ast.ExceptHandler):
            self.assertIn(getattr(node.type, "id", None), own, (name, node.lineno))

    def test_no_files_draw_from_one_another(self):
        drawn = {name: set() for name, tree in trees()}
        for name, node in nodes(ast.ImportFrom):
            drawn[name].add(node.module.split(".")[1] + ".py")
        while drawn:
            free = [name for name in drawn if not drawn[name] & set(drawn)]
            self.assertTrue(free, sorted(drawn))
            drawn = {name: drawn[name] for name in drawn if name not in free}


if __name__ == "__main__":
    unittest.main()
