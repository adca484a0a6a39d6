"""The rules of ../shared/LANGUAGE.md that can be read off the package's files."""

import ast
import builtins
import re
import unittest
from pathlib import Path

PACKAGE = Path(__file__).resolve().parent.parent / "lookwords"

NODES = """Module Expr Constant ImportFrom alias FunctionDef arguments arg ClassDef Assign AugAssign Name Load Store
Attribute Subscript Slice Call keyword If While For Return Break Continue Pass Raise Try ExceptHandler BinOp UnaryOp
BoolOp Compare IfExp List Tuple Dict Set ListComp comprehension Lambda JoinedStr FormattedValue Add Sub Mult FloorDiv
Mod Pow BitAnd BitOr BitXor LShift RShift Invert Not UAdd USub And Or Eq NotEq Lt LtE Gt GtE Is IsNot In NotIn""".split()
BUILTINS = """len range enumerate zip min max sum abs sorted reversed int str bool list tuple dict set frozenset
isinstance ord repr any all divmod Exception ValueError TypeError KeyError IndexError LookupError ZeroDivisionError
ArithmeticError OverflowError RuntimeError NotImplementedError AttributeError StopIteration""".split()
METHODS = """append clear copy count endswith extend find get index insert isalnum isalpha isdigit islower isspace
isupper items join keys ljust lower lstrip partition pop remove replace reverse rfind rjust rpartition rsplit rstrip
setdefault split splitlines startswith strip update upper values zfill bit_length""".split()
DUNDERS = ["__init__", "__eq__", "__repr__", "__str__", "__len__"]
WORDS_OUT = """type typing typing_extensions enum Enum IntEnum StrEnum Flag IntFlag Generic Protocol ABC ABCMeta
namedtuple NamedTuple TypedDict TYPE_CHECKING abstractmethod""".split()
PARTS_OUT = ["dataclass", "overload", "contextmanager"]
PYTHONS_OWN = [name for kind in (str, int, list, tuple, dict, set, bytes) for name in dir(kind)]
WALKED = ["zip", "enumerate", "reversed", "range"]
WALKERS = ["list", "tuple", "dict", "sorted", "sum", "any", "all", "enumerate", "zip", "min", "max"]


def files():
    return sorted(PACKAGE.glob("*.py"))


def trees():
    return [(path.name, ast.parse(path.read_text())) for path in files()]


def called(node):
    return node.func.id if isinstance(node, ast.Call) and isinstance(node.func, ast.Name) else None


class LanguageTest(unittest.TestCase):
    def each(self, *kinds):
        for name, tree in trees():
            for node in ast.walk(tree):
                if isinstance(node, kinds):
                    yield f"{name}:{getattr(node, 'lineno', 0)}", node

    def test_files(self):
        self.assertIn(PACKAGE / "__init__.py", files())
        for path in PACKAGE.iterdir():
            if path.name != "__pycache__":
                self.assertRegex(path.name, r"^(__init__|[a-z][a-z0-9_]*)\.py$")

    def test_signs_and_sizes(self):
        for path in files():
            rows = path.read_bytes().decode("ascii").split("\n")
            self.assertLessEqual(len(rows), 400, path.name)
            for at, row in enumerate(rows, start=1):
                self.assertLessEqual(len(row), 120, f"{path.name}:{at}")
                self.assertRegex(row, r"^[ -~]*$", f"{path.name}:{at}")

    def test_words_that_stand_nowhere(self):
        for path in files():
            text = path.read_text()
            self.assertEqual(set(re.findall(r"\w+", text)) & set(WORDS_OUT), set(), path.name)
            self.assertEqual([part for part in PARTS_OUT if part in text], [], path.name)

    def test_only_plain_statements_and_expressions(self):
        for where, node in self.each(ast.AST):
            self.assertIn(type(node).__name__, NODES, where)

    def test_texts_by_themselves_stand_at_a_file_s_top(self):
        for name, tree in trees():
            for node in ast.walk(tree):
                if isinstance(node, ast.Expr) and node != tree.body[0]:
                    self.assertIsInstance(node.value, ast.Call, f"{name}:{node.lineno}")

    def test_the_top_of_a_file(self):
        for name, tree in trees():
            bound = []
            for node in tree.body[1:]:
                self.assertIsInstance(node, (ast.ImportFrom, ast.FunctionDef, ast.ClassDef, ast.Assign), name)
                if isinstance(node, ast.Assign):
                    bound.append(node.targets[0].id)
                elif isinstance(node, ast.ImportFrom):
                    bound.extend(part.name for part in node.names)
                else:
                    bound.append(node.name)
            self.assertEqual(len(bound), len(set(bound)), name)

    def test_imports_come_from_the_defining_file(self):
        defined = {f"lookwords.{name[:-3]}": {getattr(node, "name", None) for node in tree.body}
                   | {node.targets[0].id for node in tree.body if isinstance(node, ast.Assign)} for name, tree in trees()}
        for where, node in self.each(ast.ImportFrom):
            self.assertEqual(node.level, 0, where)
            for part in node.names:
                self.assertIsNone(part.asname, where)
                self.assertIn(part.name, defined[node.module], where)

    def test_imports_are_used_and_go_one_way(self):
        draws = {}
        for name, tree in trees():
            used = {node.id for node in ast.walk(tree) if isinstance(node, ast.Name)}
            rows = [node for node in tree.body if isinstance(node, ast.ImportFrom)]
            self.assertEqual([part.name for row in rows for part in row.names if part.name not in used], [], name)
            draws[name[:-3]] = {row.module.split(".")[1] for row in rows}
        while draws:
            free = [name for name in draws if not draws[name] & set(draws)]
            self.assertNotEqual(free, [], draws)
            for name in free:
                draws.pop(name)

    def test_functions(self):
        for where, node in self.each(ast.FunctionDef):
            self.assertLessEqual(node.end_lineno - node.lineno + 1, 40, where)
            self.assertEqual(node.decorator_list, [], where)
            asked = node.args
            self.assertEqual((asked.posonlyargs, asked.kwonlyargs, asked.vararg, asked.kwarg), ([], [], None, None), where)

    def test_classes(self):
        for where, node in self.each(ast.ClassDef):
            self.assertLessEqual(len(node.bases), 1, where)
            self.assertEqual((node.decorator_list, node.keywords), ([], []), where)
            for part in node.body:
                self.assertIsInstance(part, (ast.FunctionDef, ast.Pass), where)

    def test_no_name_is_a_method_and_a_value(self):
        methods, values = [], []
        for where, node in self.each(ast.ClassDef):
            methods += [part.name for part in node.body if isinstance(part, ast.FunctionDef)]
        for where, node in self.each(ast.Attribute):
            if isinstance(node.ctx, ast.Store):
                self.assertNotIn(node.attr, PYTHONS_OWN, where)
                values.append(node.attr)
        self.assertEqual(set(methods) & set(values), set())
        self.assertEqual((set(methods) - set(DUNDERS)) & set(PYTHONS_OWN), set())

    def test_names(self):
        for where, node in self.each(ast.Name, ast.arg, ast.FunctionDef, ast.ClassDef, ast.Attribute):
            name = next(getattr(node, part) for part in ("id", "arg", "name", "attr") if hasattr(node, part))
            if name in DUNDERS:
                continue
            self.assertRegex(name, r"^[A-Za-z][A-Za-z0-9_]*$", where)
            if isinstance(node, ast.Name) and isinstance(node.ctx, ast.Load):
                self.assertTrue(name in BUILTINS or not hasattr(builtins, name), f"{where} {name}")
            elif not isinstance(node, ast.Attribute):
                self.assertFalse(hasattr(builtins, name), f"{where} {name}")

    def test_locals_are_not_called_like_imports_or_classes(self):
        for name, tree in trees():
            taken = {part.name for row in tree.body if isinstance(row, ast.ImportFrom) for part in row.names}
            taken |= {row.name for row in tree.body if isinstance(row, ast.ClassDef)}
            for node in ast.walk(tree):
                if isinstance(node, ast.arg):
                    self.assertNotIn(node.arg, taken, name)
                elif isinstance(node, ast.Name) and isinstance(node.ctx, ast.Store):
                    self.assertNotIn(node.id, taken, name)

    def test_methods(self):
        own = {node.name for where, node in self.each(ast.FunctionDef)}
        for where, node in self.each(ast.Call):
            if isinstance(node.func, ast.Attribute):
                self.assertIn(node.func.attr, set(METHODS) | own, where)

    def test_loops_assignments_comprehensions_and_errors(self):
        for where, node in self.each(ast.For, ast.While):
            self.assertEqual(node.orelse, [], where)
        for where, node in self.each(ast.Assign):
            self.assertEqual(len(node.targets), 1, where)
        for where, node in self.each(ast.ListComp):
            self.assertEqual(len(node.generators), 1, where)
            self.assertLessEqual(len(node.generators[0].ifs), 1, where)
        for where, node in self.each(ast.Try):
            self.assertEqual(node.finalbody, [], where)
        for where, node in self.each(ast.ExceptHandler):
            self.assertIsInstance(node.type, ast.Name, where)
            self.assertNotIn(node.type.id, ("Exception", "TypeError"), where)
        for where, node in self.each(ast.Raise):
            self.assertIsInstance(node.exc, ast.Call, where)

    def test_is_stands_beside_none_true_and_false(self):
        for where, node in self.each(ast.Compare):
            for sign, right in zip(node.ops, node.comparators):
                if isinstance(sign, (ast.Is, ast.IsNot)):
                    self.assertIsInstance(right, ast.Constant, where)
                    self.assertIn(repr(right.value), ("None", "True", "False"), where)

    def test_values(self):
        for where, node in self.each(ast.Constant):
            self.assertIn(type(node.value), (int, str, bool, type(None)), where)
            self.assertFalse(isinstance(node.value, str) and "%" in node.value, where)

    def test_walked_on_the_spot(self):
        for name, tree in trees():
            on_the_spot = [node.iter for node in ast.walk(tree) if isinstance(node, (ast.For, ast.comprehension))]
            on_the_spot += [node.args[0] for node in ast.walk(tree) if called(node) in WALKERS and node.args]
            for node in ast.walk(tree):
                if called(node) in WALKED:
                    self.assertIn(node, on_the_spot, f"{name}:{node.lineno}")

    def test_sets_are_not_kept(self):
        for name, tree in trees():
            at_once = [node.args[0] for node in ast.walk(tree) if called(node) in ("sorted", "len")]
            for node in ast.walk(tree):
                if isinstance(node, ast.Compare):
                    at_once += [node.left] + node.comparators
            for node in ast.walk(tree):
                if called(node) in ("set", "frozenset") or isinstance(node, ast.Set):
                    self.assertIn(node, at_once, f"{name}:{node.lineno}")


if __name__ == "__main__":
    unittest.main()
