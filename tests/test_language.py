"""The rules of LANGUAGE.md that can be seen in the package's files, each with the rule's number."""

import ast
import builtins
import re
import unittest
from pathlib import Path

PACKAGE = Path(__file__).resolve().parent.parent / "chipyard"

OWN_NAMES = """len range enumerate zip min max sum abs sorted reversed int str bool list tuple dict set frozenset
isinstance ord repr any all divmod Exception ValueError TypeError KeyError IndexError LookupError ZeroDivisionError
ArithmeticError OverflowError RuntimeError NotImplementedError AttributeError StopIteration""".split()

METHODS = """append clear copy count endswith extend find get index insert isalnum isalpha isdigit islower isspace
isupper items join keys ljust lower lstrip partition pop remove replace reverse rfind rjust rpartition rsplit rstrip
setdefault split splitlines startswith strip update upper values zfill bit_length""".split()

NODES = """Module FunctionDef ClassDef arguments arg Assign AugAssign If While For Return Break Continue Pass Raise Try
ExceptHandler Expr Call ImportFrom alias Name Attribute Subscript Slice Constant List Tuple Dict BinOp UnaryOp BoolOp
Compare IfExp ListComp comprehension Lambda JoinedStr FormattedValue keyword Load Store Add Sub Mult FloorDiv Mod Pow
BitAnd BitOr BitXor LShift RShift Invert And Or Not USub UAdd Eq NotEq Lt LtE Gt GtE Is IsNot In NotIn""".split()

LAZY = ("zip", "enumerate", "reversed", "range", "items", "keys", "values")
WALKERS = ("list", "tuple", "dict", "sorted", "sum", "any", "all", "enumerate", "zip", "min", "max", "join")

WORDS_OUT = r"\b(type|typing|typing_extensions|enum|Enum|IntEnum|StrEnum|Flag|IntFlag|Generic|Protocol|ABC|ABCMeta|" \
    r"namedtuple|NamedTuple|TypedDict|TYPE_CHECKING|abstractmethod)\b|dataclass|overload|contextmanager"


def files():
    return sorted(path for path in PACKAGE.rglob("*") if path.is_file() and "__pycache__" not in path.parts)


def trees():
    return [(path.name, ast.parse(path.read_text())) for path in files()]


def called(node):
    return getattr(node.func, "id", getattr(node.func, "attr", None))


def bound_names(tree):
    for node in ast.walk(tree):
        if isinstance(node, (ast.FunctionDef, ast.ClassDef)):
            yield node.name
        elif isinstance(node, ast.arg):
            yield node.arg
        elif isinstance(node, ast.Name) and isinstance(node.ctx, ast.Store):
            yield node.id


def top_names(tree):
    given = [part.targets[0].id for part in tree.body if isinstance(part, ast.Assign)]
    return given + [part.name for part in tree.body if isinstance(part, (ast.FunctionDef, ast.ClassDef))]


class Files(unittest.TestCase):
    def test_l1_l14_plain_files(self):
        self.assertIn("__init__.py", [path.name for path in files()])
        for path in files():
            self.assertEqual(path.parent, PACKAGE)
            self.assertRegex(path.name, r"^([a-z][a-z0-9_]*|__init__|__main__)\.py$")
            self.assertFalse(path.stem in set(vars(builtins)) - {"__init__"}, path.name)

    def test_l10_l14_size_and_signs(self):
        for path in files():
            lines = path.read_text().split("\n")
            self.assertLessEqual(len(lines), 400, path.name)
            for line in lines:
                self.assertRegex(line, r"^[ -~]{0,120}$")

    def test_l17_words(self):
        for path in files():
            self.assertIsNone(re.search(WORDS_OUT, path.read_text()), path.name)


class Forms(unittest.TestCase):
    def test_l4_l6_l7_nodes(self):
        for name, tree in trees():
            for node in ast.walk(tree):
                self.assertIn(node.__class__.__name__, NODES, (name, getattr(node, "lineno", 0)))

    def test_l2_l16_imports(self):
        drawn = {}
        for name, tree in trees():
            rows = [node for node in ast.walk(tree) if isinstance(node, ast.ImportFrom)]
            self.assertEqual([node for node in tree.body if isinstance(node, ast.ImportFrom)], rows)
            for node in rows:
                self.assertEqual(node.level, 0)
                self.assertRegex(node.module, r"^chipyard\.[a-z_]+$")
                file = dict(trees())[node.module.partition(".")[2] + ".py"]
                for one in node.names:
                    self.assertIsNone(one.asname)
                    self.assertIn(one.name, top_names(file))
            drawn[name] = [node.module.partition(".")[2] + ".py" for node in rows]
        self.assertEqual(drawn["__init__.py"], [])
        while drawn:
            free = [name for name in drawn if not any(other in drawn for other in drawn[name])]
            self.assertTrue(free, "files that draw from one another")
            drawn = {name: others for name, others in drawn.items() if name not in free}

    def test_l3_top_of_a_file(self):
        for name, tree in trees():
            for place, node in enumerate(tree.body):
                docstring = place == 0 and isinstance(node, ast.Expr) and isinstance(node.value, ast.Constant)
                plain = isinstance(node, (ast.ImportFrom, ast.FunctionDef, ast.ClassDef, ast.Assign))
                self.assertTrue(docstring or plain, (name, node.lineno))
            self.assertEqual(len(top_names(tree)), len(set(top_names(tree))), name)

    def test_l4_l10_functions(self):
        for name, tree in trees():
            for node in ast.walk(tree):
                if isinstance(node, ast.FunctionDef):
                    given = node.args
                    odd = (given.vararg, given.kwarg, node.returns)
                    self.assertEqual(odd, (None, None, None), node.name)
                    self.assertEqual(given.kwonlyargs + given.posonlyargs + node.decorator_list, [], node.name)
                    self.assertLessEqual(node.end_lineno - node.lineno + 1, 40, node.name)
                if isinstance(node, ast.arg):
                    self.assertIsNone(node.annotation)

    def test_l6_one_target_and_no_else_behind_a_loop(self):
        for name, tree in trees():
            for node in ast.walk(tree):
                if isinstance(node, ast.Assign):
                    self.assertEqual(len(node.targets), 1)
                if isinstance(node, (ast.For, ast.While)):
                    self.assertEqual(node.orelse, [])

    def test_l7_comprehensions_and_values(self):
        for name, tree in trees():
            for node in ast.walk(tree):
                if isinstance(node, ast.ListComp):
                    self.assertEqual(len(node.generators), 1)
                    self.assertLessEqual(len(node.generators[0].ifs), 1)
                if isinstance(node, ast.Constant):
                    self.assertIsInstance(node.value, (int, str, bool, type(None)))

    def test_l7_l27_texts_and_numbers(self):
        for name, tree in trees():
            for node in ast.walk(tree):
                if isinstance(node, ast.FormattedValue):
                    self.assertIsInstance(node.value, ast.Name, (name, node.lineno))
                    self.assertIsNone(node.format_spec)
                if isinstance(node, ast.Constant) and isinstance(node.value, str):
                    self.assertNotIn("%", node.value, (name, node.lineno))
                self.assertNotIsInstance(getattr(node, "op", None), ast.Pow, name)

    def test_l15_no_parameter_or_local_is_called_like_a_name_of_the_top(self):
        for name, tree in trees():
            top = top_names(tree)
            for node in ast.walk(tree):
                if isinstance(node, ast.FunctionDef):
                    for word in set(bound_names(node)) - {node.name}:
                        self.assertNotIn(word, top, (name, node.name))

    def test_l8_l12_l15_names(self):
        for name, tree in trees():
            bound = set(bound_names(tree))
            drawn = [one.name for node in ast.walk(tree) if isinstance(node, ast.ImportFrom) for one in node.names]
            for word in bound:
                self.assertRegex(word, r"^[A-Za-z][A-Za-z0-9_]*$")
                self.assertFalse(hasattr(builtins, word), word)
                self.assertNotIn(word, drawn)
            for node in ast.walk(tree):
                if isinstance(node, ast.Name) and isinstance(node.ctx, ast.Load):
                    self.assertIn(node.id, list(bound) + drawn + OWN_NAMES, name)

    def test_l25_methods(self):
        for name, tree in trees():
            for node in ast.walk(tree):
                if isinstance(node, ast.Attribute):
                    self.assertIn(node.attr, METHODS, (name, node.lineno))

    def test_l20_is(self):
        for name, tree in trees():
            for node in ast.walk(tree):
                if isinstance(node, ast.Compare) and isinstance(node.ops[0], (ast.Is, ast.IsNot)):
                    self.assertIsInstance(node.comparators[0], ast.Constant)

    def test_l23_walked_at_once(self):
        for name, tree in trees():
            walked = []
            for node in ast.walk(tree):
                if isinstance(node, (ast.For, ast.comprehension)):
                    walked.append(node.iter)
                if isinstance(node, ast.Call) and called(node) in WALKERS:
                    walked.extend(node.args)
            for node in ast.walk(tree):
                if isinstance(node, ast.Call) and called(node) in LAZY:
                    self.assertIn(node, walked, (name, node.lineno))

    def test_l5_classes(self):
        for name, tree in trees():
            for node in ast.walk(tree):
                if isinstance(node, ast.ClassDef):
                    self.assertLessEqual(len(node.bases), 1)
                    self.assertEqual(node.keywords + node.decorator_list, [])
                    for part in node.body:
                        self.assertIsInstance(part, (ast.FunctionDef, ast.Pass))
