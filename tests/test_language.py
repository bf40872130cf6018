"""The rules of the language that can be read off the package's files: forms, names, imports and sizes."""

import ast
import builtins
import pathlib
import re
import unittest

PACKAGE = pathlib.Path(__file__).resolve().parent.parent / "dutyproof"

STATEMENTS = (ast.Assign, ast.AugAssign, ast.If, ast.While, ast.For, ast.Return, ast.Break, ast.Continue, ast.Pass,
              ast.Raise, ast.Try, ast.Expr, ast.FunctionDef, ast.ClassDef, ast.ImportFrom)
WRONG_FORMS = (ast.Set, ast.SetComp, ast.DictComp, ast.GeneratorExp, ast.NamedExpr, ast.Starred, ast.Div,
               ast.AnnAssign, ast.Yield, ast.YieldFrom, ast.Await, ast.MatMult)
BUILTINS = set(
    "len range enumerate zip min max sum abs sorted reversed int str bool list tuple dict set frozenset isinstance ord "
    "repr any all divmod Exception ValueError TypeError KeyError IndexError LookupError ZeroDivisionError "
    "ArithmeticError OverflowError RuntimeError NotImplementedError AttributeError StopIteration".split())
DUNDERS = {"__init__", "__eq__", "__repr__", "__str__", "__len__"}
METHODS = set(
    "append clear copy count endswith extend find get index insert isalnum isalpha isdigit islower isspace isupper "
    "items join keys ljust lower lstrip partition pop remove replace reverse rfind rjust rpartition rsplit rstrip "
    "setdefault split splitlines startswith strip update upper values zfill bit_length".split())
WRONG_WORDS = re.compile(
    r"\b(type|typing|typing_extensions|enum|Enum|IntEnum|StrEnum|Flag|IntFlag|Generic|Protocol|ABC|ABCMeta|namedtuple|"
    r"NamedTuple|TypedDict|TYPE_CHECKING|abstractmethod)\b|dataclass|overload|contextmanager")


def sources():
    return [path for path in sorted(PACKAGE.iterdir()) if path.suffix == ".py"]


def parsed(path):
    return ast.parse(path.read_text(encoding="utf-8"))


def bound_names(tree):
    """Every name that a file binds, but the methods and values of its objects."""
    names = []
    for node in ast.walk(tree):
        if isinstance(node, ast.Name) and isinstance(node.ctx, ast.Store):
            names.append(node.id)
        elif isinstance(node, ast.arg):
            names.append(node.arg)
        elif isinstance(node, ast.ExceptHandler) and node.name:
            names.append(node.name)
        elif isinstance(node, (ast.FunctionDef, ast.ClassDef)):
            names.append(node.name)
        elif isinstance(node, ast.ImportFrom):
            names.extend(alias.asname or alias.name for alias in node.names)
    return names


def own_methods_and_values():
    methods, values = set(), set()
    for path in sources():
        for node in ast.walk(parsed(path)):
            if isinstance(node, ast.ClassDef):
                methods.update(part.name for part in node.body if isinstance(part, ast.FunctionDef))
            elif isinstance(node, ast.Attribute) and isinstance(node.ctx, ast.Store):
                values.add(node.attr)
    return methods, values


def nodes(kind):
    """Every node of this kind in the package, each with the words that tell where it stands."""
    found = []
    for path in sources():
        for node in ast.walk(parsed(path)):
            if isinstance(node, kind):
                found.append((f"{path.name}, line {getattr(node, 'lineno', 1)}", node))
    return found


class Language(unittest.TestCase):
    def test_the_package_is_there(self):
        self.assertIn("__init__.py", [path.name for path in sources()])

    def test_files(self):
        for path in PACKAGE.iterdir():
            if path.name != "__pycache__":
                self.assertRegex(path.name, r"^[a-z0-9_]+\.py$")

    def test_signs_and_sizes(self):
        for path in sources():
            text = path.read_text(encoding="utf-8")
            with self.subTest(file=path.name):
                self.assertRegex(text, r"\A[ -~\n]*\Z")
                self.assertLessEqual(len(text.splitlines()), 400)
                self.assertLessEqual(max(len(line) for line in text.splitlines()), 120)
                self.assertIsNone(WRONG_WORDS.search(text))

    def test_functions(self):
        for where, node in nodes(ast.FunctionDef):
            with self.subTest(where):
                self.assertLessEqual(node.end_lineno - node.lineno + 1, 40)
                self.assertEqual(node.decorator_list, [])
                self.assertIsNone(node.args.vararg)
                self.assertIsNone(node.args.kwarg)
                self.assertEqual(node.args.kwonlyargs + node.args.posonlyargs, [])

    def test_classes(self):
        for where, node in nodes(ast.ClassDef):
            with self.subTest(where):
                self.assertLessEqual(len(node.bases), 1)
                self.assertEqual(node.decorator_list + node.keywords, [])
                for part in node.body:
                    self.assertIsInstance(part, (ast.FunctionDef, ast.Pass))

    def test_the_top_of_a_module(self):
        for path in sources():
            with self.subTest(file=path.name):
                tree = parsed(path)
                self.assertIsNotNone(ast.get_docstring(tree))
                for part in tree.body[1:]:
                    self.assertIsInstance(part, (ast.ImportFrom, ast.FunctionDef, ast.ClassDef, ast.Assign))

    def test_calls_alone_stand_by_themselves(self):
        tops = [ast.unparse(parsed(path).body[0]) for path in sources()]
        for where, node in nodes(ast.Expr):
            if ast.unparse(node) not in tops:
                with self.subTest(where):
                    self.assertIsInstance(node.value, ast.Call)

    def test_statements(self):
        for where, node in nodes(ast.stmt):
            with self.subTest(where):
                self.assertIsInstance(node, STATEMENTS)
                if isinstance(node, ast.Assign):
                    self.assertEqual(len(node.targets), 1)
                if isinstance(node, (ast.For, ast.While)):
                    self.assertEqual(node.orelse, [])
                if isinstance(node, ast.Try):
                    self.assertEqual(node.finalbody, [])
                    self.assertNotIn(None, [handler.type for handler in node.handlers])

    def test_expressions(self):
        for where, node in nodes(ast.AST):
            with self.subTest(where):
                self.assertNotIsInstance(node, WRONG_FORMS)
                if isinstance(node, ast.Constant):
                    self.assertNotIsInstance(node.value, (float, complex, bytes))
                if isinstance(node, ast.ListComp):
                    self.assertEqual(len(node.generators), 1)
                    self.assertLessEqual(len(node.generators[0].ifs), 1)
                if isinstance(node, ast.FormattedValue):
                    self.assertIsInstance(node.value, ast.Name)

    def test_is_stands_beside_none_and_the_truths_alone(self):
        for where, node in nodes(ast.Compare):
            if any(isinstance(sign, (ast.Is, ast.IsNot)) for sign in node.ops):
                with self.subTest(where):
                    self.assertIsInstance(node.comparators[-1], ast.Constant)
                    self.assertIn(node.comparators[-1].value, (None, True, False))

    def test_imports(self):
        for where, node in nodes(ast.ImportFrom):
            with self.subTest(where):
                self.assertEqual(node.level, 0)
                self.assertRegex(node.module, r"^dutyproof\.[a-z0-9_]+$")
                self.assertNotIn("*", [alias.name for alias in node.names])
                self.assertTrue((PACKAGE / (node.module.split(".")[1] + ".py")).exists())

    def test_names(self):
        for path in sources():
            for name in bound_names(parsed(path)):
                if name not in DUNDERS:
                    with self.subTest(file=path.name, name=name):
                        self.assertFalse(name.startswith("_"))
                        self.assertNotIn(name, dir(builtins))

    def test_names_of_python_s_own(self):
        for path in sources():
            known = set(bound_names(parsed(path))) | BUILTINS
            for node in ast.walk(parsed(path)):
                if isinstance(node, ast.Name):
                    with self.subTest(file=path.name, line=node.lineno):
                        self.assertIn(node.id, known)

    def test_methods_and_values(self):
        methods, values = own_methods_and_values()
        self.assertEqual(methods & values, set())
        for where, node in nodes(ast.Attribute):
            with self.subTest(where):
                self.assertIn(node.attr, methods | values | METHODS | DUNDERS)


if __name__ == "__main__":
    unittest.main()
