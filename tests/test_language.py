"""The package keeps to the small part of Python that it is written in, as far as a look at its files can tell."""

import ast
import builtins
import pathlib
import re
import tokenize
import unittest

PACKAGE = pathlib.Path(__file__).resolve().parent.parent / "onceways"

OWN_NAMES = """len range enumerate zip min max sum abs sorted reversed int str bool list tuple dict set frozenset
isinstance ord repr any all divmod Exception ValueError TypeError KeyError IndexError LookupError ZeroDivisionError
ArithmeticError OverflowError RuntimeError NotImplementedError AttributeError StopIteration""".split()

OWN_METHODS = """append clear copy count endswith extend find get index insert isalnum isalpha isdigit islower isspace
isupper items join keys ljust lower lstrip partition pop remove replace reverse rfind rjust rpartition rsplit rstrip
setdefault split splitlines startswith strip update upper values zfill bit_length""".split()

WALKED = ("zip", "enumerate", "reversed", "range")

WALKERS = ("list", "tuple", "dict", "sorted", "sum", "any", "all", "enumerate", "zip", "min", "max")

NODES = """Module Expr Constant ImportFrom alias FunctionDef ClassDef arguments arg Assign AugAssign If While For
Return Break Continue Pass Raise Try ExceptHandler Call Name Load Store List Tuple Dict Set BinOp UnaryOp BoolOp Compare IfExp
Attribute Subscript Slice ListComp comprehension Lambda JoinedStr FormattedValue keyword Add Sub Mult FloorDiv Mod Pow
BitAnd BitOr BitXor LShift RShift Invert USub UAdd Not And Or Eq NotEq Lt LtE Gt GtE In NotIn Is IsNot""".split()

WORDS_OUT = """type typing typing_extensions enum Enum IntEnum StrEnum Flag IntFlag Generic Protocol ABC ABCMeta
namedtuple NamedTuple TypedDict TYPE_CHECKING abstractmethod""".split()

NAMES_OUT = """register mro elements open input version_info with_traceback add_note attrgetter breakpoint builtins
compile copyright credits delattr dir eval exec exit gc getattr globals hasattr help id importlib license locals
methodcaller os quit setattr super vars sys format format_map chr print""".split()


def files():
    return sorted(path for path in PACKAGE.rglob("*") if "__pycache__" not in path.parts and path.is_file())


def trees():
    return [(path.name, ast.parse(path.read_text())) for path in files()]


def bound_names(tree):
    for node in ast.walk(tree):
        if isinstance(node, (ast.FunctionDef, ast.ClassDef)):
            yield node.name, node.lineno
        elif isinstance(node, ast.arg):
            yield node.arg, node.lineno
        elif isinstance(node, ast.Name) and isinstance(node.ctx, ast.Store):
            yield node.id, node.lineno


def own_values_and_methods():
    """What the classes of the package name themselves: methods, and values given to self."""
    methods, values = set(), set()
    for name, tree in trees():
        for kind in (node for node in ast.walk(tree) if isinstance(node, ast.ClassDef)):
            methods |= {node.name for node in kind.body if isinstance(node, ast.FunctionDef)}
        for node in ast.walk(tree):
            if isinstance(node, ast.Attribute) and isinstance(node.ctx, ast.Store) and node.value.id == "self":
                values.add(node.attr)
    return values, methods


def set_sides(node):
    """The parts of several sets with - & | ^ between them."""
    if isinstance(node, ast.BinOp) and isinstance(node.op, (ast.Sub, ast.BitAnd, ast.BitOr, ast.BitXor)):
        return set_sides(node.left) + set_sides(node.right)
    return [node]


def is_docstring(tree, node):
    return tree.body and node is tree.body[0]


class FilesTest(unittest.TestCase):
    def test_plain_files_alone(self):
        for path in files():
            self.assertRegex(path.name, r"^(__init__|__main__|[a-z][a-z0-9_]*)\.py$")
            self.assertFalse(re.match(r"test|site|conftest", path.name))
        self.assertIn(PACKAGE / "__init__.py", files())

    def test_signs_and_sizes(self):
        for path in files():
            text = path.read_bytes().decode("ascii")
            self.assertEqual([sign for sign in text if sign != "\n" and not " " <= sign <= "~"], [], path)
            rows = text.split("\n")
            self.assertLessEqual(len(rows), 400)
            self.assertLessEqual(max(map(len, rows)), 120)

    def test_words_that_stand_nowhere(self):
        for path in files():
            text = path.read_text()
            self.assertEqual([word for word in re.findall(r"\w+", text) if word in WORDS_OUT], [], path)
            self.assertNotRegex(text, r"dataclass|overload|contextmanager")

    def test_texts(self):
        for path in files():
            with path.open("rb") as source:
                for token in tokenize.tokenize(source.readline):
                    if token.type == tokenize.STRING:
                        self.assertNotIn("%", token.string)
                        self.assertNotRegex(token.string, r"\\[^nt\\'\"]")


class TreesTest(unittest.TestCase):
    def test_nodes(self):
        for name, tree in trees():
            for node in ast.walk(tree):
                self.assertIn(type(node).__name__, NODES, name)
                if isinstance(node, ast.Expr):
                    self.assertTrue(isinstance(node.value, ast.Call) or is_docstring(tree, node), (name, node.lineno))
                if isinstance(node, ast.Constant):
                    self.assertIsInstance(node.value, (int, str, type(None)))
                if isinstance(node, ast.Assign):
                    self.assertEqual(len(node.targets), 1)
                if isinstance(node, (ast.For, ast.While)):
                    self.assertEqual(node.orelse, [])
                if isinstance(node, ast.ListComp):
                    self.assertEqual(len(node.generators), 1)
                    self.assertLessEqual(len(node.generators[0].ifs), 1)
                if isinstance(node, ast.FunctionDef):
                    self.assertEqual((node.decorator_list, node.args.vararg, node.args.kwarg, node.args.kwonlyargs),
                                     ([], None, None, []))
                    self.assertTrue(all(isinstance(default, ast.Constant) for default in node.args.defaults))
                    self.assertLessEqual(node.end_lineno - node.lineno + 1, 40)

    def test_imports(self):
        drawn = {}
        for name, tree in trees():
            rows = [node for node in ast.walk(tree) if isinstance(node, ast.ImportFrom)]
            for row in rows:
                self.assertTrue(row.module.startswith("onceways.") and row.level == 0 and row in tree.body)
                defined = ast.parse((PACKAGE / (row.module.split(".")[1] + ".py")).read_text()).body
                tops = [node.name for node in defined if isinstance(node, (ast.FunctionDef, ast.ClassDef))]
                tops += [node.targets[0].id for node in defined if isinstance(node, ast.Assign)]
                for alias in row.names:
                    self.assertIn(alias.name, tops)
            drawn[name[:-3]] = [row.module.split(".")[1] for row in rows]
        while drawn:
            free = [name for name in drawn if not any(other in drawn for other in drawn[name])]
            self.assertTrue(free, "files draw from one another in a ring")
            for name in free:
                drawn.pop(name)

    def test_names(self):
        for name, tree in trees():
            bound = [word for word, row in bound_names(tree)]
            imported = [alias.name for node in ast.walk(tree) if isinstance(node, ast.ImportFrom)
                        for alias in node.names]
            for word, row in bound_names(tree):
                if word == "__init__":
                    continue
                self.assertRegex(word, r"^[A-Za-z][A-Za-z0-9_]*$")
                self.assertFalse(hasattr(builtins, word) or word in NAMES_OUT + imported, (name, row, word))
            for node in ast.walk(tree):
                if isinstance(node, ast.Name) and node.id not in bound + imported:
                    self.assertIn(node.id, OWN_NAMES, (name, node.lineno))
            tops = [node.name for node in tree.body if isinstance(node, (ast.FunctionDef, ast.ClassDef))]
            self.assertEqual(len(tops), len(set(tops)))

    def test_methods(self):
        values, methods = own_values_and_methods()
        self.assertEqual(values & methods, set())
        taken = {name for kind in (str, int, list, tuple, dict, set, bytes) for name in dir(kind)}
        self.assertEqual((values | methods) & taken - {"__init__"}, set())
        for name, tree in trees():
            called = [node.func for node in ast.walk(tree) if isinstance(node, ast.Call)]
            for node in ast.walk(tree):
                if isinstance(node, ast.Attribute):
                    self.assertIn(node.attr, [*OWN_METHODS, *values, *methods], (name, node.lineno))
                    self.assertTrue(node.attr in values or node in called, (name, node.lineno))

    def test_walked_on_the_spot_and_sets_not_kept(self):
        for name, tree in trees():
            walked, within = [], []
            for node in ast.walk(tree):
                if isinstance(node, (ast.For, ast.comprehension)):
                    walked.append(node.iter)
                if isinstance(node, ast.Call) and isinstance(node.func, ast.Name) and node.args:
                    walked += node.args[:1] * (node.func.id in WALKERS)
                    if node.func.id == "len" or node.func.id == "sorted" and not node.keywords:
                        within += set_sides(node.args[0])
                if isinstance(node, ast.Compare):
                    within += [node.left] + node.comparators
            for node in ast.walk(tree):
                if isinstance(node, ast.Call) and isinstance(node.func, ast.Name):
                    if node.func.id in WALKED:
                        self.assertIn(node, walked, (name, node.lineno))
                    if node.func.id == "set":
                        self.assertIn(node, within, (name, node.lineno))

    def test_is_beside_none_true_and_false_alone(self):
        for name, tree in trees():
            for node in ast.walk(tree):
                if isinstance(node, ast.Compare) and isinstance(node.ops[0], (ast.Is, ast.IsNot)):
                    self.assertIn(repr(node.comparators[0].value), ("None", "True", "False"))
