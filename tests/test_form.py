"""The form of the code: those rules of LANGUAGE.md that a walk through the package's files can see."""

import ast
import builtins
import pathlib
import re
import unittest

PACKAGE = pathlib.Path(__file__).resolve().parent.parent / "oneofall"

STATEMENTS = """FunctionDef ClassDef ImportFrom Assign AugAssign If While For Return Break Continue Pass Raise Try
ExceptHandler Expr""".split()
EXPRESSIONS = """Constant Name List Tuple Dict Set BinOp UnaryOp BoolOp Compare IfExp Call Attribute Subscript Slice
ListComp comprehension JoinedStr FormattedValue Lambda keyword arguments arg alias""".split()
SIGNS = """Load Store Add Sub Mult FloorDiv Mod Pow BitAnd BitOr BitXor Invert LShift RShift USub UAdd Not And Or
Eq NotEq Lt LtE Gt GtE Is IsNot In NotIn Module""".split()

BUILT_IN = """len range enumerate zip min max sum abs sorted reversed int str bool list tuple dict set frozenset
isinstance ord repr any all divmod Exception ValueError TypeError KeyError IndexError LookupError ZeroDivisionError
ArithmeticError OverflowError RuntimeError NotImplementedError AttributeError StopIteration""".split()
METHODS = """append clear copy count endswith extend find get index insert isalnum isalpha isdigit islower isspace
isupper items join keys ljust lower lstrip partition pop remove replace reverse rfind rjust rpartition rsplit rstrip
setdefault split splitlines startswith strip update upper values zfill bit_length""".split()
SPECIAL = ["__init__", "__eq__", "__repr__", "__str__", "__len__"]
WORDS = """type typing typing_extensions enum Enum IntEnum StrEnum Flag IntFlag Generic Protocol ABC ABCMeta namedtuple
NamedTuple TypedDict TYPE_CHECKING abstractmethod""".split()
PARTS_OF_WORDS = ["dataclass", "overload", "contextmanager"]
NOT_NAMES = """register mro elements open input version_info with_traceback add_note attrgetter breakpoint builtins
compile copyright credits delattr dir eval exec exit gc getattr globals hasattr help id importlib license locals
methodcaller os quit setattr super sys type vars""".split()


def files():
    return sorted(PACKAGE.glob("*.py"))


def nodes(kinds):
    for path in files():
        for node in ast.walk(ast.parse(path.read_text())):
            if isinstance(node, kinds):
                yield path.name, node


def bound_names(node):
    if isinstance(node, (ast.FunctionDef, ast.ClassDef)):
        return [node.name]
    if isinstance(node, ast.arg):
        return [node.arg]
    if isinstance(node, ast.Name) and isinstance(node.ctx, ast.Store):
        return [node.id]
    return []


class Form(unittest.TestCase):

    def test_files(self):
        for path in PACKAGE.iterdir():
            if path.name != "__pycache__":
                self.assertRegex(path.name, r"^[a-z_][a-z0-9_]*\.py$")
        self.assertTrue((PACKAGE / "__init__.py").exists())

    def test_signs_and_sizes(self):
        for path in files():
            text = path.read_bytes().decode("ascii")
            self.assertRegex(text, r"\A[ -~\n]*\Z", path.name)
            lines = text.split("\n")
            self.assertLessEqual(len(lines), 400, path.name)
            self.assertLessEqual(max(len(line) for line in lines), 120, path.name)
        for name, node in nodes(ast.FunctionDef):
            self.assertLessEqual(node.end_lineno - node.lineno + 1, 40, (name, node.name))

    def test_words_that_stand_nowhere(self):
        for path in files():
            text = path.read_text()
            for word in re.findall(r"\w+", text):
                self.assertNotIn(word, WORDS, path.name)
            for part in PARTS_OF_WORDS:
                self.assertNotIn(part, text, path.name)

    def test_kinds_of_nodes(self):
        allowed = STATEMENTS + EXPRESSIONS + SIGNS
        for name, node in nodes(ast.AST):
            self.assertIn(type(node).__name__, allowed, (name, getattr(node, "lineno", 0)))

    def test_statements(self):
        for name, node in nodes((ast.For, ast.While)):
            self.assertEqual(node.orelse, [], (name, node.lineno))
        for name, node in nodes(ast.Try):
            self.assertEqual(node.finalbody, [], (name, node.lineno))
        for name, node in nodes(ast.Assign):
            self.assertEqual(len(node.targets), 1, (name, node.lineno))
            self.assertNotIsInstance(node.targets[0], (ast.Tuple, ast.List), (name, node.lineno))
        for name, node in nodes(ast.Expr):
            self.assertIsInstance(node.value, (ast.Call, ast.Constant), (name, node.lineno))

    def test_imports(self):
        for name, node in nodes(ast.ImportFrom):
            self.assertEqual(node.level, 0, name)
            self.assertRegex(node.module, r"^oneofall\.[a-z]+$", name)
            drawn = ast.parse((PACKAGE / (node.module.split(".")[1] + ".py")).read_text())
            own = [item.name for item in drawn.body if isinstance(item, (ast.FunctionDef, ast.ClassDef))]
            own += [target.id for item in drawn.body if isinstance(item, ast.Assign) for target in item.targets]
            for alias in node.names:
                self.assertIn(alias.name, own, name)
                self.assertIsNone(alias.asname, name)

    def test_no_two_files_draw_from_one_another(self):
        drawn = {path.stem: [] for path in files()}
        for name, node in nodes(ast.ImportFrom):
            drawn[name.removesuffix(".py")].append(node.module.split(".")[1])
        while drawn:
            ready = [name for name in drawn if not set(drawn[name]) & set(drawn)]
            self.assertTrue(ready, drawn)
            for name in ready:
                drawn.pop(name)

    def test_top_of_a_file(self):
        for path in files():
            body = ast.parse(path.read_text()).body
            bound = []
            for item in body:
                kinds = (ast.Expr, ast.ImportFrom, ast.Assign, ast.FunctionDef, ast.ClassDef)
                self.assertIsInstance(item, kinds, (path.name, item.lineno))
                if isinstance(item, ast.ImportFrom):
                    bound += [alias.name for alias in item.names]
                if isinstance(item, ast.Assign):
                    bound += [target.id for target in item.targets]
                bound += [item.name] if isinstance(item, (ast.FunctionDef, ast.ClassDef)) else []
            self.assertEqual(sorted(bound), sorted(set(bound)), path.name)
            drawn = [alias.name for item in body if isinstance(item, ast.ImportFrom) for alias in item.names]
            drawn += [item.name for item in body if isinstance(item, ast.ClassDef)]
            for node in ast.walk(ast.parse(path.read_text())):
                if isinstance(node, (ast.arg, ast.Name)):
                    for name in bound_names(node):
                        self.assertNotIn(name, drawn, (path.name, node.lineno))

    def test_is_stands_beside_written_values_alone(self):
        for name, node in nodes(ast.Compare):
            for sign, beside in zip(node.ops, node.comparators):
                if isinstance(sign, (ast.Is, ast.IsNot)):
                    self.assertIsInstance(beside, ast.Constant, (name, node.lineno))
                    self.assertIn(repr(beside.value), ("None", "True", "False"), (name, node.lineno))

    def test_functions(self):
        for name, node in nodes(ast.FunctionDef):
            self.assertEqual(node.decorator_list, [], (name, node.name))
            self.assertIsNone(node.returns, (name, node.name))
            given = node.args
            self.assertFalse(given.vararg or given.kwarg or given.kwonlyargs or given.posonlyargs, (name, node.name))
            if node.name.startswith("_"):
                self.assertIn(node.name, SPECIAL, name)

    def test_names(self):
        for name, node in nodes(ast.AST):
            for bound in bound_names(node):
                if bound in SPECIAL:
                    continue
                self.assertRegex(bound, r"^[A-Za-z][A-Za-z0-9_]*$", name)
                self.assertFalse(hasattr(builtins, bound), (name, bound))
                self.assertNotIn(bound, NOT_NAMES, name)

    def test_names_of_pythons_own(self):
        for name, node in nodes(ast.Name):
            if hasattr(builtins, node.id):
                self.assertIn(node.id, BUILT_IN, (name, node.lineno))
            self.assertNotIn(node.id, NOT_NAMES, (name, node.lineno))

    def test_methods(self):
        own = METHODS + ["__init__"]
        for name, node in nodes(ast.ClassDef):
            own = own + [item.name for item in node.body if isinstance(item, ast.FunctionDef)]
        for name, node in nodes(ast.Call):
            if isinstance(node.func, ast.Attribute):
                self.assertIn(node.func.attr, own, (name, node.lineno))

    def test_methods_and_values_of_objects(self):
        methods, values = [], []
        for name, node in nodes(ast.ClassDef):
            methods += [item.name for item in node.body if isinstance(item, ast.FunctionDef)]
        for name, node in nodes(ast.Attribute):
            if isinstance(node.ctx, ast.Store):
                values.append(node.attr)
        self.assertEqual(set(methods) & set(values), set())
        for value in values:
            for kind in (str, int, list, dict, set, bytes, tuple):
                self.assertFalse(hasattr(kind, value), value)
            self.assertRegex(value, r"^[A-Za-z][A-Za-z0-9_]*$")

    def test_lists_and_dicts_of_a_files_top_are_only_read(self):
        for path in files():
            whole = ast.parse(path.read_text())
            kept = [item.targets[0].id for item in whole.body
                    if isinstance(item, ast.Assign) and isinstance(item.value, (ast.List, ast.Dict))]
            read = []
            for node in ast.walk(whole):
                if isinstance(node, ast.Subscript) and isinstance(node.ctx, ast.Load):
                    read.append(node.value)
                if isinstance(node, (ast.For, ast.comprehension)):
                    read.append(node.iter)
                if isinstance(node, ast.Compare):
                    read += node.comparators
                if isinstance(node, ast.Attribute) and node.attr == "get":
                    read.append(node.value)
            for node in ast.walk(whole):
                if isinstance(node, ast.Name) and node.id in kept and isinstance(node.ctx, ast.Load):
                    self.assertIn(node, read, (path.name, node.lineno))

    def test_values(self):
        for name, node in nodes(ast.Constant):
            self.assertIn(type(node.value), (int, str, bool, type(None)), (name, node.lineno))
            if isinstance(node.value, str):
                self.assertNotIn("%", node.value, (name, node.lineno))
        for name, node in nodes(ast.ListComp):
            self.assertEqual(len(node.generators), 1, (name, node.lineno))
            self.assertLessEqual(len(node.generators[0].ifs), 1, (name, node.lineno))
        for name, node in nodes(ast.FormattedValue):
            self.assertIsInstance(node.value, ast.Name, (name, node.lineno))
            self.assertIsNone(node.format_spec, (name, node.lineno))


if __name__ == "__main__":
    unittest.main()
