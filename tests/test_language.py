"""Those rules of LANGUAGE.md that can be seen in the package's files one node or word at a time."""

import ast
import builtins
import pathlib
import re
import unittest

PACKAGE = pathlib.Path(__file__).resolve().parent.parent / "linecaster"

# L4 to L7: what may stand in a file at all.
NODES = """
Module Expr Constant ImportFrom alias FunctionDef arguments arg ClassDef Lambda Return Assign AugAssign If While For
Break Continue Pass Raise Try ExceptHandler Call keyword Attribute Subscript Slice Name Load Store List Tuple Dict Set
BinOp Add Sub Mult FloorDiv Mod Pow BitAnd BitOr BitXor LShift RShift UnaryOp USub Not Invert BoolOp And Or Compare
Eq NotEq Lt LtE Gt GtE Is IsNot In NotIn IfExp ListComp comprehension JoinedStr FormattedValue
""".split()

# L8, less what L24 and L27 take away.
BUILTINS = """
len range enumerate zip min max sum abs sorted reversed int str bool list tuple dict set isinstance ord repr any all
divmod Exception ValueError TypeError KeyError IndexError LookupError ZeroDivisionError ArithmeticError OverflowError
RuntimeError NotImplementedError AttributeError StopIteration
""".split()

# L25: the methods of Python's own values.
METHODS = """
append clear copy count endswith extend find get index insert isalnum isalpha isdigit islower isspace isupper items join
keys ljust lower lstrip partition pop remove replace reverse rfind rjust rpartition rsplit rstrip setdefault split
splitlines startswith strip update upper values zfill bit_length
""".split()

# L17: words that stand nowhere, remarks and texts too.
WORDS = """
type typing typing_extensions enum Enum IntEnum StrEnum Flag IntFlag Generic Protocol ABC ABCMeta namedtuple NamedTuple
TypedDict TYPE_CHECKING abstractmethod
""".split()
PARTS = ("dataclass", "overload", "contextmanager")

# L26: what a value of an object may be called, though Python's own values have it, and what they have.
FREE_VALUES = "count index title find get join lower upper split strip copy add".split()
OWN_VALUES = [name for kind in (str, int, list, dict, set, bytes) for name in dir(kind)]

# L23: what is walked on the spot, and what may walk it.
WALKED = ("zip", "enumerate", "reversed", "range")
WALKERS = ("list", "tuple", "dict", "sorted", "sum", "any", "all", "enumerate", "zip")


def files():
    return sorted(PACKAGE.glob("*.py"))


def trees():
    return [(path, ast.parse(path.read_text(encoding="ascii"))) for path in files()]


def nodes(kind):
    return [(path, node) for path, tree in trees() for node in ast.walk(tree) if isinstance(node, kind)]


def bound_by(node):
    if isinstance(node, ast.ImportFrom):
        return [name.asname or name.name for name in node.names]
    if isinstance(node, (ast.FunctionDef, ast.ClassDef)):
        return [node.name]
    if isinstance(node, ast.Assign):
        return [node.targets[0].id]
    return []


def names_of_top(tree):
    return [name for node in tree.body for name in bound_by(node)]


class Language(unittest.TestCase):
    def where(self, path, node):
        return f"{path.name}:{getattr(node, 'lineno', 0)}"

    def test_l1_only_plain_files_lie_in_the_package(self):
        names = [path.name for path in PACKAGE.iterdir() if path.name != "__pycache__"]
        self.assertIn("__init__.py", names)
        for name in names:
            self.assertRegex(name, r"^([a-z][a-z0-9_]*|__init__|__main__)\.py$")

    def test_l10_sizes(self):
        for path in files():
            rows = path.read_text().split("\n")
            self.assertLessEqual(len(rows), 400, path.name)
            self.assertLessEqual(max(len(row) for row in rows), 120, path.name)
        for path, node in nodes(ast.FunctionDef):
            self.assertLessEqual(node.end_lineno - node.lineno + 1, 40, self.where(path, node))

    def test_l14_signs(self):
        for path in files():
            self.assertRegex(path.read_text(encoding="utf-8"), r"\A[ -~\n]*\Z", path.name)

    def test_l17_words(self):
        for path in files():
            text = path.read_text()
            for word in WORDS:
                self.assertIsNone(re.search(rf"\b{word}\b", text), f"{path.name}: {word}")
            for part in PARTS:
                self.assertNotIn(part, text, path.name)

    def test_l2_imports_name_the_packages_own_modules(self):
        for path, node in nodes(ast.ImportFrom):
            self.assertEqual(node.level, 0, self.where(path, node))
            source = PACKAGE.parent / (node.module.replace(".", "/") + ".py")
            self.assertTrue(source.is_file(), self.where(path, node))
            self.assertNotIn("*", [name.name for name in node.names], self.where(path, node))

    def test_l4_to_l7_nodes(self):
        for path, node in nodes(ast.AST):
            self.assertIn(node.__class__.__name__, NODES, self.where(path, node))
            if isinstance(node, (ast.For, ast.While)):
                self.assertEqual(node.orelse, [], self.where(path, node))
            if isinstance(node, ast.Try):
                self.assertEqual(node.finalbody, [], self.where(path, node))
            if isinstance(node, ast.Assign):
                self.assertEqual(len(node.targets), 1, self.where(path, node))
            if isinstance(node, ast.ListComp):
                self.assertEqual(len(node.generators), 1, self.where(path, node))
                self.assertLessEqual(len(node.generators[0].ifs), 1, self.where(path, node))
            if isinstance(node, ast.Constant):
                self.assertIn(type(node.value), (int, str, bool, type(None)), self.where(path, node))

    def test_l5_classes(self):
        for path, node in nodes(ast.ClassDef):
            self.assertLessEqual(len(node.bases), 1, self.where(path, node))
            self.assertEqual(node.decorator_list, [], self.where(path, node))

    def test_l8_builtins(self):
        for path, node in nodes(ast.Name):
            if hasattr(builtins, node.id):
                self.assertIn(node.id, BUILTINS, self.where(path, node))
                self.assertIsInstance(node.ctx, ast.Load, self.where(path, node))

    def test_l12_and_l15_bound_names(self):
        bound = [(path, node, node.id) for path, node in nodes(ast.Name) if isinstance(node.ctx, ast.Store)]
        bound += [(path, node, node.arg) for path, node in nodes(ast.arg)]
        for path, node, name in bound:
            self.assertFalse(name.startswith("_"), self.where(path, node))
            self.assertFalse(hasattr(builtins, name), self.where(path, node))

    def test_l15_names_of_a_file(self):
        for path, tree in trees():
            top = names_of_top(tree)
            self.assertEqual(len(top), len(set(top)), path.name)
            kept = [node for node in tree.body if isinstance(node, (ast.ImportFrom, ast.ClassDef))]
            taken = [name for node in kept for name in bound_by(node)]
            stored = [node for node in ast.walk(tree) if isinstance(node, ast.Name) and isinstance(node.ctx, ast.Store)]
            inner = [node.arg for node in ast.walk(tree) if isinstance(node, ast.arg)] + [node.id for node in stored]
            self.assertEqual(set(inner) & set(taken), set(), path.name)

    def test_l16_imports_come_from_the_file_that_defines_the_name(self):
        for path, node in nodes(ast.ImportFrom):
            source = ast.parse((PACKAGE.parent / (node.module.replace(".", "/") + ".py")).read_text())
            defined = [name for part in source.body if not isinstance(part, ast.ImportFrom) for name in bound_by(part)]
            for name in node.names:
                self.assertIn(name.name, defined, self.where(path, node))

    def test_l16_no_two_files_draw_from_one_another(self):
        drawn = {path.stem: set() for path in files()}
        for path, node in nodes(ast.ImportFrom):
            drawn[path.stem].add(node.module.split(".")[-1])
        while drawn:
            free = [name for name in drawn if not drawn[name] & set(drawn)]
            self.assertNotEqual(free, [], sorted(drawn))
            drawn = {name: drawn[name] for name in drawn if name not in free}

    def test_l18_no_name_is_a_method_and_a_value(self):
        methods = []
        for path, node in nodes(ast.ClassDef):
            names = [part.name for part in node.body if isinstance(part, ast.FunctionDef)]
            self.assertEqual(len(names), len(set(names)), self.where(path, node))
            methods += names
        for path, node in nodes(ast.Attribute):
            if isinstance(node.ctx, ast.Store):
                self.assertNotIn(node.attr, methods, self.where(path, node))

    def test_l18_and_l26_values(self):
        for path, node in nodes(ast.Attribute):
            if isinstance(node.ctx, ast.Store):
                self.assertIsInstance(node.value, ast.Name, self.where(path, node))
                self.assertNotEqual(node.attr, "args", self.where(path, node))
                if node.attr not in FREE_VALUES:
                    self.assertNotIn(node.attr, OWN_VALUES, self.where(path, node))

    def test_l26_methods(self):
        for path, node in nodes(ast.ClassDef):
            for part in node.body:
                if isinstance(part, ast.FunctionDef) and part.name not in METHODS + ["__init__", "add", "discard"]:
                    self.assertNotIn(part.name, OWN_VALUES, self.where(path, part))

    def test_l20_is_stands_beside_none_and_truths(self):
        for path, node in nodes(ast.Compare):
            for operator, right in zip(node.ops, node.comparators):
                if isinstance(operator, (ast.Is, ast.IsNot)):
                    self.assertIsInstance(right, ast.Constant, self.where(path, node))
                    self.assertIn(right.value, (None, True, False), self.where(path, node))

    def test_l23_walked_at_once(self):
        for path, tree in trees():
            walked = [node.iter for node in ast.walk(tree) if isinstance(node, (ast.For, ast.comprehension))]
            calls = [node for node in ast.walk(tree) if isinstance(node, ast.Call) and isinstance(node.func, ast.Name)]
            for node in calls:
                alone = node.func.id in ("min", "max") and len(node.args) == 1
                if node.args and (alone or node.func.id in WALKERS):
                    walked.append(node.args[0])
            for node in calls:
                if node.func.id in WALKED:
                    self.assertIn(node, walked, self.where(path, node))

    def test_l25_called_methods(self):
        own = [node.name for path, node in nodes(ast.FunctionDef)]
        for path, node in nodes(ast.Call):
            if isinstance(node.func, ast.Attribute):
                self.assertIn(node.func.attr, METHODS + own, self.where(path, node))

    def test_l27_no_power_of_a_name(self):
        for path, node in nodes(ast.BinOp):
            if isinstance(node.op, ast.Pow):
                self.assertIsInstance(node.right, ast.Constant, self.where(path, node))


if __name__ == "__main__":
    unittest.main()
