"""The program's form: rules L1 to L28, as far as they can be seen row by row."""

import ast
import builtins
import re
import unittest
from pathlib import Path

PACKAGE = Path(__file__).resolve().parent.parent / "linescriptsdesk"
FILES = sorted(PACKAGE.glob("*.py"))

FUNCTIONS = set(
    "len range enumerate zip min max sum abs sorted reversed int str bool list tuple dict set frozenset "
    "isinstance ord repr any all divmod".split()
)
ERRORS = set(
    "Exception ValueError TypeError KeyError IndexError LookupError ZeroDivisionError ArithmeticError "
    "OverflowError RuntimeError NotImplementedError AttributeError StopIteration".split()
)
PYTHONS_OWN = set(dir(builtins))
METHODS = set(
    "append clear copy count endswith extend find get index insert isalnum isalpha isdigit islower isspace "
    "isupper items join keys ljust lower lstrip partition pop remove replace reverse rfind rjust rpartition "
    "rsplit rstrip setdefault split splitlines startswith strip update upper values zfill bit_length".split()
)
VALUES_METHODS = {name for kind in (str, int, list, tuple, dict, set, bytes) for name in dir(kind)}
NEVER_NAMED = set(
    "register mro elements open input version_info with_traceback add_note attrgetter breakpoint builtins compile "
    "copyright credits delattr dir eval exec exit gc getattr globals hasattr help id importlib license locals "
    "methodcaller os quit setattr super type vars sys format format_map args encode sort".split()
)
NEVER_WRITTEN = re.compile(
    r"\b(type|typing|typing_extensions|enum|Enum|IntEnum|StrEnum|Flag|IntFlag|Generic|Protocol|ABC|ABCMeta"
    r"|namedtuple|NamedTuple|TypedDict|TYPE_CHECKING|abstractmethod)\b|dataclass|overload|contextmanager"
)
STATEMENTS = (
    ast.Assign, ast.AugAssign, ast.If, ast.While, ast.For, ast.Return, ast.Break, ast.Continue, ast.Pass,
    ast.Raise, ast.Try, ast.Expr, ast.FunctionDef, ast.ClassDef, ast.ImportFrom,
)
EXPRESSIONS = (
    ast.Constant, ast.Name, ast.Attribute, ast.Subscript, ast.Slice, ast.Call, ast.BinOp, ast.UnaryOp, ast.BoolOp,
    ast.Compare, ast.IfExp, ast.List, ast.Tuple, ast.Dict, ast.ListComp, ast.Lambda, ast.JoinedStr,
    ast.FormattedValue,
)
SIGNS = (
    ast.Add, ast.Sub, ast.Mult, ast.FloorDiv, ast.Mod, ast.Pow, ast.BitAnd, ast.BitOr, ast.BitXor, ast.LShift,
    ast.RShift, ast.Invert, ast.USub, ast.UAdd, ast.Not, ast.And, ast.Or,
)


def trees():
    return [(path.name, ast.parse(path.read_text(encoding="utf-8"))) for path in FILES]


def nodes(*kinds):
    return [(name, node) for name, tree in trees() for node in ast.walk(tree) if isinstance(node, kinds)]


def names_bound(tree):
    """Every name that a file binds: variables, parameters, functions, classes, errors taken."""
    bound = []
    for node in ast.walk(tree):
        if isinstance(node, ast.Name) and isinstance(node.ctx, ast.Store):
            bound.append(node.id)
        elif isinstance(node, ast.arg):
            bound.append(node.arg)
        elif isinstance(node, (ast.FunctionDef, ast.ClassDef)):
            bound.append(node.name)
        elif isinstance(node, ast.ExceptHandler) and node.name:
            bound.append(node.name)
    return bound


class Files(unittest.TestCase):
    def test_files_are_plain_and_python_alone(self):
        found = [path for path in PACKAGE.rglob("*") if "__pycache__" not in path.parts]
        self.assertEqual(sorted(found), FILES)
        for path in FILES:
            self.assertRegex(path.name, r"^([a-z][a-z0-9_]*|__init__)\.py$")
            self.assertNotIn(path.stem, PYTHONS_OWN)

    def test_signs_and_sizes(self):
        for path in FILES:
            text = path.read_bytes()
            self.assertTrue(all(byte == 10 or 32 <= byte <= 126 for byte in text), path.name)
            rows = text.decode().split("\n")
            self.assertLessEqual(len(rows), 399, path.name)
            self.assertLessEqual(max(len(row) for row in rows), 120, path.name)

    def test_functions_have_at_most_40_lines(self):
        for name, node in nodes(ast.FunctionDef):
            self.assertLessEqual(node.end_lineno - node.lineno + 1, 40, (name, node.name))

    def test_words_that_stand_nowhere(self):
        for path in FILES:
            self.assertIsNone(NEVER_WRITTEN.search(path.read_text()), path.name)


class Tops(unittest.TestCase):
    def test_the_top_of_a_module(self):
        for name, tree in trees():
            self.assertIsNotNone(ast.get_docstring(tree), name)
            for node in tree.body[1:]:
                self.assertIsInstance(node, (ast.ImportFrom, ast.FunctionDef, ast.ClassDef, ast.Assign), name)
                if isinstance(node, ast.Assign):
                    self.assertIsInstance(node.value, (ast.Constant, ast.Tuple), name)

    def test_each_name_is_bound_once_at_a_top(self):
        for name, tree in trees():
            bound = []
            for node in tree.body[1:]:
                if isinstance(node, ast.ImportFrom):
                    bound += [alias.name for alias in node.names]
                elif isinstance(node, ast.Assign):
                    bound += [target.id for target in node.targets]
                else:
                    bound.append(node.name)
            self.assertEqual(len(bound), len(set(bound)), name)

    def test_imports_draw_from_the_file_that_defines(self):
        tops = {name: {node.name for node in tree.body if hasattr(node, "name")} | {
            target.id for node in tree.body if isinstance(node, ast.Assign) for target in node.targets
        } for name, tree in trees()}
        for name, node in nodes(ast.ImportFrom):
            self.assertEqual(node.level, 0)
            package, module = node.module.split(".")
            self.assertEqual(package, "linescriptsdesk")
            for alias in node.names:
                self.assertIsNone(alias.asname)
                self.assertIn(alias.name, tops[module + ".py"], name)

    def test_no_two_files_draw_from_one_another(self):
        draws = {}
        for name, node in nodes(ast.ImportFrom):
            draws.setdefault(name, set()).add(node.module.split(".")[1] + ".py")
        while draws:
            free = [name for name, drawn in draws.items() if not drawn & set(draws)]
            self.assertTrue(free, draws)
            for name in free:
                del draws[name]

    def test_answers_stands_in_scripts_alone(self):
        found = [name for name, node in nodes(ast.FunctionDef, ast.ClassDef) if node.name == "answers"]
        self.assertEqual(found, ["scripts.py"])


class Statements(unittest.TestCase):
    def test_only_the_told_kinds(self):
        for name, node in nodes(ast.stmt, ast.expr, ast.operator, ast.unaryop, ast.boolop):
            self.assertIsInstance(node, STATEMENTS + EXPRESSIONS + SIGNS, (name, getattr(node, "lineno", 0)))

    def test_a_value_by_itself_is_a_call_or_a_files_docstring(self):
        for name, tree in trees():
            for node in ast.walk(tree):
                if isinstance(node, ast.Expr) and node is not tree.body[0]:
                    self.assertIsInstance(node.value, ast.Call, (name, node.lineno))

    def test_one_target_and_no_else_behind_a_loop(self):
        for name, node in nodes(ast.Assign):
            self.assertEqual(len(node.targets), 1, (name, node.lineno))
            self.assertNotIsInstance(node.targets[0], (ast.Tuple, ast.List), (name, node.lineno))
        for name, node in nodes(ast.For, ast.While):
            self.assertEqual(node.orelse, [], (name, node.lineno))

    def test_errors_are_taken_by_name(self):
        for name, node in nodes(ast.Try):
            self.assertEqual(node.finalbody, [])
            for handler in node.handlers:
                self.assertNotIn(getattr(handler.type, "id", None), ERRORS | {None}, (name, node.lineno))

    def test_plain_parameters(self):
        for name, node in nodes(ast.FunctionDef):
            given = node.args
            self.assertEqual((given.vararg, given.kwarg, given.kwonlyargs, given.posonlyargs), (None, None, [], []))
            self.assertEqual((node.decorator_list, node.returns), ([], None), (name, node.name))
            self.assertTrue(all(part.annotation is None for part in given.args))


class Values(unittest.TestCase):
    def test_constants(self):
        for name, node in nodes(ast.Constant):
            self.assertIn(type(node.value), (int, str, bool, type(None)), (name, node.lineno))
            if isinstance(node.value, str):
                self.assertNotIn("%", node.value, (name, node.lineno))

    def test_comprehensions_have_one_for_and_at_most_one_if(self):
        for name, node in nodes(ast.ListComp):
            self.assertEqual(len(node.generators), 1, (name, node.lineno))
            self.assertLessEqual(len(node.generators[0].ifs), 1, (name, node.lineno))

    def test_is_stands_beside_none_true_and_false(self):
        for name, node in nodes(ast.Compare):
            for sign, side in zip(node.ops, node.comparators):
                if isinstance(sign, (ast.Is, ast.IsNot)):
                    self.assertIsInstance(getattr(side, "value", ""), (type(None), bool), (name, node.lineno))

    def test_what_is_kept_for_a_walk_is_walked_at_once(self):
        for name, node in nodes(ast.Assign, ast.Return):
            called = getattr(getattr(node.value, "func", None), "id", "")
            self.assertNotIn(called, ("zip", "enumerate", "reversed", "range", "set"), (name, node.lineno))

    def test_keywords_are_those_that_are_told(self):
        told = {"sorted": ("key", "reverse"), "min": ("key", "default"), "max": ("key", "default"),
                "sum": ("start",), "enumerate": ("start",), "zip": ("strict",)}
        for name, node in nodes(ast.Call):
            for keyword in node.keywords:
                self.assertIn(keyword.arg, told.get(getattr(node.func, "id", ""), ()), (name, node.lineno))


class Names(unittest.TestCase):
    def test_names_are_plain_and_not_pythons_own(self):
        for name, tree in trees():
            for bound in names_bound(tree):
                if bound != "__init__":
                    self.assertRegex(bound, r"^[A-Za-z][A-Za-z0-9_]*$", name)
                    self.assertNotIn(bound, PYTHONS_OWN | NEVER_NAMED, name)

    def test_locals_are_not_called_like_classes_or_imports(self):
        for name, tree in trees():
            taken = {alias.name for node in tree.body if isinstance(node, ast.ImportFrom) for alias in node.names}
            taken |= {node.name for node in tree.body if isinstance(node, ast.ClassDef)}
            for node in ast.walk(tree):
                if isinstance(node, ast.Name) and isinstance(node.ctx, ast.Store):
                    self.assertNotIn(node.id, taken, name)
                if isinstance(node, ast.arg):
                    self.assertNotIn(node.arg, taken, name)

    def test_pythons_own_names_are_those_that_are_told(self):
        for name, tree in trees():
            bound = set(names_bound(tree))
            for node in ast.walk(tree):
                if isinstance(node, ast.ImportFrom):
                    bound |= {alias.name for alias in node.names}
            for node in ast.walk(tree):
                if isinstance(node, ast.Name) and node.id not in bound:
                    self.assertIn(node.id, FUNCTIONS | ERRORS, (name, node.lineno))

    def test_methods_and_values_of_the_programs_own(self):
        methods, values = set(), set()
        for name, node in nodes(ast.ClassDef):
            for part in node.body:
                self.assertIsInstance(part, (ast.FunctionDef, ast.Pass), (name, node.name))
                if isinstance(part, ast.FunctionDef) and part.name != "__init__":
                    methods.add(part.name)
        for name, node in nodes(ast.Attribute):
            if isinstance(node.ctx, ast.Store):
                values.add(node.attr)
        self.assertEqual(methods & values, set())
        self.assertEqual((methods | values) & (VALUES_METHODS | NEVER_NAMED), set())
        for name, node in nodes(ast.Attribute):
            self.assertIn(node.attr, methods | values | METHODS, (name, node.lineno))

    def test_methods_of_pythons_own_are_called_where_they_stand(self):
        own = {node.attr for name, node in nodes(ast.Attribute) if isinstance(node.ctx, ast.Store)}
        for name, tree in trees():
            called = {id(node.func) for node in ast.walk(tree) if isinstance(node, ast.Call)}
            for node in ast.walk(tree):
                if isinstance(node, ast.Attribute) and node.attr not in own:
                    self.assertIn(id(node), called, (name, node.lineno))


if __name__ == "__main__":
    unittest.main()
