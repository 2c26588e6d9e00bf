"""The package's files against those rules of its part of the language that can be seen file by file."""

import ast
import pathlib
import re
import unittest

PACKAGE = pathlib.Path(__file__).resolve().parent.parent / "leastindexes"

NODES = (
    "Module Expr Constant ImportFrom alias FunctionDef ClassDef arguments arg Lambda Assign AugAssign If While For "
    "Return Break Continue Pass Raise Try ExceptHandler Call keyword Attribute Subscript Slice Name Load Store List "
    "Tuple Dict BinOp UnaryOp BoolOp Compare IfExp ListComp comprehension JoinedStr FormattedValue Add Sub Mult "
    "FloorDiv Mod Pow BitAnd BitOr BitXor Invert LShift RShift USub Not And Or Eq NotEq Lt LtE Gt GtE Is IsNot In "
    "NotIn"
).split()
BUILT_IN = (
    "len range enumerate zip min max sum abs sorted reversed int str bool list tuple dict set frozenset isinstance ord "
    "repr any all divmod Exception ValueError TypeError KeyError IndexError LookupError ZeroDivisionError "
    "ArithmeticError OverflowError RuntimeError NotImplementedError AttributeError StopIteration"
).split()
METHODS = (
    "append clear copy count endswith extend find get index insert isalnum isalpha isdigit islower isspace isupper "
    "items join keys ljust lower lstrip partition pop remove replace reverse rfind rjust rpartition rsplit rstrip "
    "setdefault split splitlines startswith strip update upper values zfill bit_length"
).split()
NOT_AS_VALUES = (
    "items keys values pop update append clear extend insert remove reverse setdefault sort args encode format"
).split()
WORDS = (
    r"\b(type|typing|typing_extensions|enum|Enum|IntEnum|StrEnum|Flag|IntFlag|Generic|Protocol|ABC|ABCMeta|namedtuple"
    r"|NamedTuple|TypedDict|TYPE_CHECKING|abstractmethod)\b|dataclass|overload|contextmanager"
)
UNUSED = "register mro elements open input version_info with_traceback add_note format format_map".split()


def files():
    return sorted(path for path in PACKAGE.iterdir() if path.name != "__pycache__")


def parsed():
    return [(path.name, ast.parse(path.read_text(encoding="utf-8"))) for path in files()]


def nodes(*kinds):
    for name, tree in parsed():
        for node in ast.walk(tree):
            if isinstance(node, kinds):
                yield f"{name}:{getattr(node, 'lineno', 0)}", node


def own_methods():
    found = []
    for where, node in nodes(ast.ClassDef):
        found += [part.name for part in node.body if isinstance(part, ast.FunctionDef)]
    return found


def bound_names():
    """Names that are given to something: locals, parameters, functions, classes and imports."""
    for where, node in nodes(ast.Name, ast.arg, ast.FunctionDef, ast.ClassDef, ast.alias):
        if isinstance(node, ast.Name) and isinstance(node.ctx, ast.Store):
            yield where, node.id
        elif isinstance(node, ast.arg):
            yield where, node.arg
        elif isinstance(node, (ast.FunctionDef, ast.ClassDef, ast.alias)):
            yield where, node.name


class FileTest(unittest.TestCase):

    def test_files(self):
        for path in files():
            self.assertRegex(path.name, r"^(__init__|[a-z][a-z0-9_]*)\.py$")

    def test_signs_and_size(self):
        for path in files():
            text = path.read_text(encoding="utf-8")
            self.assertRegex(text, r"\A[\n -~]*\Z", path.name)
            self.assertLessEqual(text.count("\n"), 400, path.name)
            for line in text.split("\n"):
                self.assertLessEqual(len(line), 120, line)
        for where, node in nodes(ast.FunctionDef):
            self.assertLessEqual(node.end_lineno - node.lineno + 1, 40, where)

    def test_words_that_stand_nowhere(self):
        for path in files():
            self.assertIsNone(re.search(WORDS, path.read_text(encoding="utf-8")), path.name)

    def test_imports(self):
        drawn = {}
        for where, node in nodes(ast.ImportFrom):
            self.assertEqual(node.level, 0, where)
            self.assertRegex(node.module, r"^leastindexes\.[a-z_]+$", where)
            drawn.setdefault(where.split(".py")[0], set()).add(node.module.split(".")[1])
        self.assertNotIn("__init__", drawn)
        while drawn:
            ends = [name for name in drawn if not drawn[name] & set(drawn)]
            self.assertNotEqual(ends, [], f"files draw from one another: {sorted(drawn)}")
            for name in ends:
                drawn.pop(name)


class FormTest(unittest.TestCase):

    def test_statements_and_expressions(self):
        for where, node in nodes(ast.AST):
            self.assertIn(type(node).__name__, NODES, where)

    def test_top_of_a_file(self):
        for name, tree in parsed():
            for node in tree.body[1:]:
                self.assertIsInstance(node, (ast.ImportFrom, ast.FunctionDef, ast.ClassDef, ast.Assign), name)
                if isinstance(node, ast.Assign):
                    ast.literal_eval(node.value)

    def test_narrower_forms(self):
        for where, node in nodes(ast.Assign):
            self.assertEqual(len(node.targets), 1, where)
        for where, node in nodes(ast.For, ast.While):
            self.assertEqual(node.orelse, [], where)
        for where, node in nodes(ast.Try):
            self.assertEqual(node.finalbody, [], where)
        for where, node in nodes(ast.ListComp):
            self.assertEqual(len(node.generators), 1, where)
            self.assertLessEqual(len(node.generators[0].ifs), 1, where)
        for where, node in nodes(ast.FunctionDef, ast.ClassDef):
            self.assertEqual(node.decorator_list, [], where)
        for where, node in nodes(ast.arguments):
            self.assertEqual((node.vararg, node.kwarg, node.kwonlyargs, node.posonlyargs), (None, None, [], []), where)
        for where, node in nodes(ast.Constant):
            self.assertIsInstance(node.value, (int, str, type(None)), where)

    def test_is_stands_beside_none_true_and_false(self):
        for where, node in nodes(ast.Compare):
            if any(isinstance(sign, (ast.Is, ast.IsNot)) for sign in node.ops):
                self.assertIsInstance(node.comparators[0], ast.Constant, where)

    def test_names(self):
        python_own = dir(__import__("builtins"))
        bound = {name for where, name in bound_names()}
        for where, name in bound_names():
            if name != "__init__":
                self.assertRegex(name, r"^[A-Za-z][A-Za-z0-9_]*$", where)
            self.assertNotIn(name, python_own + UNUSED, where)
        for where, node in nodes(ast.Name):
            self.assertIn(node.id, bound | set(BUILT_IN), where)

    def test_methods_and_values_of_objects(self):
        methods = own_methods()
        stored = set()
        for where, node in nodes(ast.Attribute):
            self.assertNotIn(node.attr, UNUSED, where)
            if isinstance(node.ctx, ast.Store):
                stored.add(node.attr)
                self.assertNotIn(node.attr, NOT_AS_VALUES, where)
        self.assertEqual(stored & set(methods), set())
        for where, node in nodes(ast.Call):
            if isinstance(node.func, ast.Attribute):
                self.assertIn(node.func.attr, METHODS + methods, where)


if __name__ == "__main__":
    unittest.main()
