"""The rules of the language that can be read off the package's files: forms, names, imports and sizes."""

import ast
import builtins
import pathlib
import re
import unittest

PACKAGE = pathlib.Path(__file__).resolve().parent.parent / "dutyproof"

STATEMENTS = (ast.Assign, ast.AugAssign, ast.If, ast.While, ast.For, ast.Return, ast.Break, ast.Continue, ast.Pass,
              ast.Raise, ast.Try, ast.Expr, ast.FunctionDef, ast.ClassDef, ast.ImportFrom)
WRONG_FORMS = (ast.Set, ast.SetComp, ast.DictComp, ast.GeneratorExp, ast.NamedExpr, ast.Starred, ast.Div,
               ast.AnnAssign, ast.Yield, ast.YieldFrom, ast.Await, ast.MatMult)
BUILTINS = set(
    "len range enumerate zip min max sum abs sorted reversed int str bool list tuple dict set frozenset isinstance ord "
    "repr any all divmod Exception ValueError TypeError KeyError IndexError LookupError ZeroDivisionError "
    "ArithmeticError OverflowError RuntimeError NotImplementedError AttributeError StopIteration".split())
ERRORS = {name for name in BUILTINS if isinstance(getattr(builtins, name), type)
          and issubclass(getattr(builtins, name), Exception)}
DUNDERS = {"__init__", "__eq__", "__repr__", "__str__", "__len__"}
METHODS = set(
    "append clear copy count endswith extend find get index insert isalnum isalpha isdigit islower isspace isupper "
    "items join keys ljust lower lstrip partition pop remove replace reverse rfind rjust rpartition rsplit rstrip "
    "setdefault split splitlines startswith strip update upper values zfill bit_length".split())
WRONG_WORDS = re.compile(
    r"\b(type|typing|typing_extensions|enum|Enum|IntEnum|StrEnum|Flag|IntFlag|Generic|Protocol|ABC|ABCMeta|namedtuple|"
    r"NamedTuple|TypedDict|TYPE_CHECKING|abstractmethod)\b|dataclass|overload|contextmanager")


NOT_NAMES = set(
    "attrgetter breakpoint builtins compile copyright credits delattr dir eval exec exit gc getattr globals hasattr "
    "help id importlib license locals methodcaller os quit setattr super type vars sys".split())
NOWHERE = set("register mro elements open input version_info with_traceback add_note format format_map".split())
NOT_VALUES = set(
    "items keys values pop update append clear extend insert remove reverse setdefault sort args encode format".split())
MAYBE_VALUES = set("count index title find get join lower upper split strip copy add".split())
NOT_FILES = {"test", "tests", "testing", "site", "conftest", "sitecustomize", "usercustomize"}
KEYWORDS = {"sorted": {"key", "reverse"}, "min": {"key", "default"}, "max": {"key", "default"}, "sum": {"start"},
            "enumerate": {"start"}, "zip": {"strict"}}
WALKED = {"zip", "enumerate", "reversed", "range"}
WALKERS = {"list", "tuple", "dict", "sorted", "sum", "any", "all", "enumerate", "zip"}


def sources():
    return [path for path in sorted(PACKAGE.iterdir()) if path.suffix == ".py"]


def parsed(path):
    return ast.parse(path.read_text(encoding="utf-8"))


def bound_names(tree):
    """Every name that a file binds, but the methods and values of its objects."""
    names = []
    for node in ast.walk(tree):
        if isinstance(node, ast.Name) and isinstance(node.ctx, ast.Store):
            names.append(node.id)
        elif isinstance(node, ast.arg):
            names.append(node.arg)
        elif isinstance(node, ast.ExceptHandler) and node.name:
            names.append(node.name)
        elif isinstance(node, (ast.FunctionDef, ast.ClassDef)):
            names.append(node.name)
        elif isinstance(node, ast.ImportFrom):
            names.extend(alias.asname or alias.name for alias in node.names)
    return names


def own_methods_and_values():
    methods, values = set(), set()
    for path in sources():
        for node in ast.walk(parsed(path)):
            if isinstance(node, ast.ClassDef):
                methods.update(part.name for part in node.body if isinstance(part, ast.FunctionDef))
            elif isinstance(node, ast.Attribute) and isinstance(node.ctx, ast.Store):
                values.add(node.attr)
    return methods, values


def nodes(kind):
    """Every node of this kind in the package, each with the words that tell where it stands."""
    found = []
    for path in sources():
        for node in ast.walk(parsed(path)):
            if isinstance(node, kind):
                found.append((f"{path.name}, line {getattr(node, 'lineno', 1)}", node))
    return found


def with_parents(kind):
    """Every node of this kind in the package, where it stands, and the nodes around it, the nearest first."""
    found = []
    for path in sources():
        around = {}
        for node in ast.walk(parsed(path)):
            for part in ast.iter_child_nodes(node):
                around[part] = [node] + around.get(node, [])
            if isinstance(node, kind):
                found.append((f"{path.name}, line {getattr(node, 'lineno', 1)}", node, around.get(node, [])))
    return found


def called(node):
    """The name by which a call calls, where it is a plain name."""
    return node.func.id if isinstance(node, ast.Call) and isinstance(node.func, ast.Name) else None


def method_called(node):
    return node.func.attr if isinstance(node, ast.Call) and isinstance(node.func, ast.Attribute) else None


def own_classes():
    return {node.name for where, node in nodes(ast.ClassDef)}


def names_of_python_s_values():
    return {name for kind in (str, int, list, dict, set, frozenset, tuple, bytes, bytearray) for name in dir(kind)}


def top_names(path):
    """The names that a file defines at its top."""
    names = []
    for part in parsed(path).body:
        if isinstance(part, (ast.FunctionDef, ast.ClassDef)):
            names.append(part.name)
        elif isinstance(part, ast.Assign):
            names.append(part.targets[0].id)
    return names


def imported_names(path):
    return [alias.name for part in parsed(path).body if isinstance(part, ast.ImportFrom) for alias in part.names]


def draws_from(path):
    return {part.module.split(".")[1] for part in parsed(path).body if isinstance(part, ast.ImportFrom)}


class Language(unittest.TestCase):
    def test_the_package_is_there(self):
        self.assertIn("__init__.py", [path.name for path in sources()])

    def test_files(self):
        for path in PACKAGE.iterdir():
            if path.name != "__pycache__":
                self.assertRegex(path.name, r"^[a-z0-9_]+\.py$")

    def test_signs_and_sizes(self):
        for path in sources():
            text = path.read_text(encoding="utf-8")
            with self.subTest(file=path.name):
                self.assertRegex(text, r"\A[ -~\n]*\Z")
                self.assertLessEqual(len(text.splitlines()), 400)
                self.assertLessEqual(max(len(line) for line in text.splitlines()), 120)
                self.assertIsNone(WRONG_WORDS.search(text))

    def test_functions(self):
        for where, node in nodes(ast.FunctionDef):
            with self.subTest(where):
                self.assertLessEqual(node.end_lineno - node.lineno + 1, 40)
                self.assertEqual(node.decorator_list, [])
                self.assertIsNone(node.args.vararg)
                self.assertIsNone(node.args.kwarg)
                self.assertEqual(node.args.kwonlyargs + node.args.posonlyargs, [])

    def test_classes(self):
        for where, node in nodes(ast.ClassDef):
            with self.subTest(where):
                self.assertLessEqual(len(node.bases), 1)
                self.assertEqual(node.decorator_list + node.keywords, [])
                for part in node.body:
                    self.assertIsInstance(part, (ast.FunctionDef, ast.Pass))

    def test_the_top_of_a_module(self):
        for path in sources():
            with self.subTest(file=path.name):
                tree = parsed(path)
                self.assertIsNotNone(ast.get_docstring(tree))
                for part in tree.body[1:]:
                    self.assertIsInstance(part, (ast.ImportFrom, ast.FunctionDef, ast.ClassDef, ast.Assign))

    def test_calls_alone_stand_by_themselves(self):
        tops = [ast.unparse(parsed(path).body[0]) for path in sources()]
        for where, node in nodes(ast.Expr):
            if ast.unparse(node) not in tops:
                with self.subTest(where):
                    self.assertIsInstance(node.value, ast.Call)

    def test_statements(self):
        for where, node in nodes(ast.stmt):
            with self.subTest(where):
                self.assertIsInstance(node, STATEMENTS)
                if isinstance(node, ast.Assign):
                    self.assertEqual(len(node.targets), 1)
                if isinstance(node, (ast.For, ast.While)):
                    self.assertEqual(node.orelse, [])
                if isinstance(node, ast.Try):
                    self.assertEqual(node.finalbody, [])
                    self.assertNotIn(None, [handler.type for handler in node.handlers])

    def test_expressions(self):
        for where, node in nodes(ast.AST):
            with self.subTest(where):
                self.assertNotIsInstance(node, WRONG_FORMS)
                if isinstance(node, ast.Constant):
                    self.assertNotIsInstance(node.value, (float, complex, bytes))
                if isinstance(node, ast.ListComp):
                    self.assertEqual(len(node.generators), 1)
                    self.assertLessEqual(len(node.generators[0].ifs), 1)
                if isinstance(node, ast.FormattedValue):
                    self.assertIsInstance(node.value, ast.Name)

    def test_is_stands_beside_none_and_the_truths_alone(self):
        for where, node in nodes(ast.Compare):
            if any(isinstance(sign, (ast.Is, ast.IsNot)) for sign in node.ops):
                with self.subTest(where):
                    self.assertIsInstance(node.comparators[-1], ast.Constant)
                    self.assertIn(node.comparators[-1].value, (None, True, False))

    def test_imports(self):
        for where, node in nodes(ast.ImportFrom):
            with self.subTest(where):
                self.assertEqual(node.level, 0)
                self.assertRegex(node.module, r"^dutyproof\.[a-z0-9_]+$")
                self.assertNotIn("*", [alias.name for alias in node.names])
                self.assertTrue((PACKAGE / (node.module.split(".")[1] + ".py")).exists())

    def test_names(self):
        for path in sources():
            for name in bound_names(parsed(path)):
                if name not in DUNDERS:
                    with self.subTest(file=path.name, name=name):
                        self.assertFalse(name.startswith("_"))
                        self.assertNotIn(name, dir(builtins))

    def test_names_of_python_s_own(self):
        for path in sources():
            known = set(bound_names(parsed(path))) | BUILTINS
            for node in ast.walk(parsed(path)):
                if isinstance(node, ast.Name):
                    with self.subTest(file=path.name, line=node.lineno):
                        self.assertIn(node.id, known)

    def test_methods_and_values(self):
        methods, values = own_methods_and_values()
        self.assertEqual(methods & values, set())
        for where, node in nodes(ast.Attribute):
            with self.subTest(where):
                self.assertIn(node.attr, methods | values | METHODS | DUNDERS)


class NarrowerRules(unittest.TestCase):
    def test_file_names(self):
        for path in sources():
            self.assertNotIn(path.stem, NOT_FILES | set(dir(builtins)))
            self.assertFalse(path.stem.startswith("test_"))

    def test_each_name_of_a_top_is_bound_once(self):
        for path in sources():
            names = top_names(path) + imported_names(path)
            self.assertEqual(sorted(names), sorted(set(names)), path.name)

    def test_a_top_holds_plain_values(self):
        for path in sources():
            for part in parsed(path).body:
                if isinstance(part, ast.Assign):
                    self.assertIsInstance(part.value, (ast.Constant, ast.Tuple), f"{path.name}, line {part.lineno}")

    def test_no_parameter_or_local_is_called_like_a_class_or_an_import(self):
        for path in sources():
            taken = set(imported_names(path)) | own_classes()
            for function in [node for node in ast.walk(parsed(path)) if isinstance(node, ast.FunctionDef)]:
                for node in ast.walk(function):
                    if isinstance(node, ast.arg):
                        self.assertNotIn(node.arg, taken, f"{path.name}, line {node.lineno}")
                    if isinstance(node, ast.Name) and isinstance(node.ctx, ast.Store):
                        self.assertNotIn(node.id, taken, f"{path.name}, line {node.lineno}")

    def test_a_name_is_drawn_from_the_file_that_defines_it(self):
        for where, node in nodes(ast.ImportFrom):
            for alias in node.names:
                self.assertIn(alias.name, top_names(PACKAGE / (node.module.split(".")[1] + ".py")), where)

    def test_no_two_files_draw_from_one_another(self):
        draws = {path.stem: draws_from(path) for path in sources()}
        self.assertEqual(draws["__init__"], set())
        while draws:
            ends = [name for name in draws if not draws[name]]
            self.assertNotEqual(ends, [], draws)
            draws = {name: drawn - set(ends) for name, drawn in draws.items() if drawn}

    def test_all_that_is_drawn_is_used(self):
        for path in sources():
            used = {node.id for node in ast.walk(parsed(path)) if isinstance(node, ast.Name)}
            self.assertEqual(set(imported_names(path)) - used, set(), path.name)

    def test_names_that_are_not_used(self):
        for where, node in nodes(ast.Name):
            self.assertNotIn(node.id, NOT_NAMES | NOWHERE, where)
        for where, node in nodes(ast.Attribute):
            self.assertNotIn(node.attr, NOWHERE, where)

    def test_classes_are_not_handed_on(self):
        classes = own_classes()
        for where, node, around in with_parents(ast.Name):
            if node.id in classes:
                near = around[0]
                self.assertTrue(
                    (isinstance(near, ast.Call) and near.func is node)
                    or (called(near) == "isinstance" and near.args[1] is node)
                    or (isinstance(near, ast.ClassDef) and node in near.bases)
                    or (isinstance(near, ast.ExceptHandler) and near.type is node)
                    or (isinstance(near, ast.Attribute) and near.attr == "__init__"), where)

    def test_values_are_given_through_self_alone(self):
        for where, node in nodes(ast.Attribute):
            if isinstance(node.ctx, ast.Store):
                self.assertEqual(ast.unparse(node.value), "self", where)

    def test_errors_are_made_and_taken_by_name(self):
        for where, node in nodes(ast.Raise):
            self.assertIn(called(node.exc), own_classes() | ERRORS, where)
        for where, node in nodes(ast.ExceptHandler):
            self.assertIn(ast.unparse(node.type), own_classes(), where)

    def test_keywords(self):
        for where, node in nodes(ast.Call):
            for keyword in node.keywords:
                self.assertIn(keyword.arg, KEYWORDS.get(called(node), set()), where)

    def test_python_s_own_are_called_not_kept(self):
        for where, node, around in with_parents(ast.Name):
            if node.id in BUILTINS - ERRORS:
                near = around[0]
                at_isinstance = [outer for outer in around[:2] if called(outer) == "isinstance"]
                self.assertTrue((isinstance(near, ast.Call) and near.func is node) or at_isinstance
                                or isinstance(near, ast.keyword), where)

    def test_walked_at_once(self):
        for where, node, around in with_parents(ast.Call):
            if called(node) in WALKED or method_called(node) in ("items", "keys", "values"):
                near = around[0]
                self.assertTrue(
                    (isinstance(near, (ast.For, ast.comprehension)) and near.iter is node)
                    or (called(near) in WALKERS and near.args[0] is node)
                    or (called(near) in ("min", "max") and near.args == [node]), where)

    def test_sets(self):
        for where, node, around in with_parents(ast.Call):
            if called(node) in ("set", "frozenset"):
                near = [outer for outer in around if not isinstance(outer, ast.BinOp)][0]
                self.assertTrue(isinstance(near, ast.Compare)
                                or (called(near) in ("sorted", "len") and not near.keywords), where)

    def test_methods_are_called_where_they_stand(self):
        methods, values = own_methods_and_values()
        for where, node, around in with_parents(ast.Attribute):
            if node.attr in (methods | METHODS) - values:
                self.assertTrue(isinstance(around[0], ast.Call) and around[0].func is node, where)

    def test_own_methods_and_values(self):
        methods, values = own_methods_and_values()
        taken = names_of_python_s_values()
        self.assertEqual((methods - DUNDERS) & (taken - METHODS - {"add", "discard"}), set())
        self.assertEqual(values & NOT_VALUES, set())
        self.assertEqual(values & (taken - MAYBE_VALUES), set())

    def test_no_method_stands_twice(self):
        for where, node in nodes(ast.ClassDef):
            names = [part.name for part in node.body if isinstance(part, ast.FunctionDef)]
            self.assertEqual(sorted(names), sorted(set(names)), where)

    def test_numbers_and_texts(self):
        for where, node in nodes(ast.BinOp):
            if isinstance(node.op, ast.Pow):
                self.assertIsInstance(node.right, ast.Constant, where)
            if isinstance(node.op, ast.Mod):
                self.assertNotIsInstance(node.left, (ast.JoinedStr, ast.Constant), where)
        for where, node in nodes(ast.Constant):
            if isinstance(node.value, str):
                self.assertNotIn(chr(37), node.value, where)
        for path in sources():
            self.assertNotRegex(path.read_text(encoding="utf-8"), r"\\[^nt\\'\"]")

    def test_makers_give_back_nothing(self):
        for where, node in nodes(ast.FunctionDef):
            if node.name == "__init__":
                self.assertEqual([part for part in ast.walk(node) if isinstance(part, ast.Return)], [], where)
            for default in node.args.defaults:
                self.assertIsInstance(default, ast.Constant, where)
            self.assertIsNone(node.returns, where)

    def test_what_a_loop_walks_is_not_changed_in_it(self):
        changes = {"append", "clear", "extend", "insert", "pop", "remove", "reverse", "setdefault", "update"}
        for where, node in nodes(ast.For):
            walked = {ast.unparse(part) for part in ast.walk(node.iter) if isinstance(part, (ast.Name, ast.Attribute))}
            for part in [part for line in node.body for part in ast.walk(line)]:
                if method_called(part) in changes:
                    self.assertNotIn(ast.unparse(part.func.value), walked, where)
                if isinstance(part, ast.Subscript) and isinstance(part.ctx, ast.Store):
                    self.assertNotIn(ast.unparse(part.value), walked, where)


if __name__ == "__main__":
    unittest.main()
