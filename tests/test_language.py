"""The form of the package's files: the rules of the language that can be read off a file."""

import ast
import builtins
import re
import unittest
from pathlib import Path

PACKAGE = Path(__file__).resolve().parent.parent / "askorder"

NODES = """
Module Expr Constant ImportFrom alias FunctionDef arguments arg ClassDef Return Assign AugAssign For While If Raise
Try ExceptHandler Pass Break Continue BoolOp And Or BinOp Add Sub Mult FloorDiv Mod Pow LShift RShift BitOr BitXor
BitAnd UnaryOp Not USub Invert Lambda IfExp Dict Set ListComp comprehension Compare Eq NotEq Lt LtE Gt GtE Is IsNot
In NotIn Call keyword JoinedStr FormattedValue Attribute Subscript Slice Name List Tuple Load Store
""".split()

OWN_NAMES = """
len range enumerate zip min max sum abs sorted reversed int str bool list tuple dict set frozenset isinstance ord repr
any all divmod Exception ValueError TypeError KeyError IndexError LookupError ZeroDivisionError ArithmeticError
OverflowError RuntimeError NotImplementedError AttributeError StopIteration
""".split()

METHODS = """
append clear copy count endswith extend find get index insert isalnum isalpha isdigit islower isspace isupper items
join keys ljust lower lstrip partition pop remove replace reverse rfind rjust rpartition rsplit rstrip setdefault split
splitlines startswith strip update upper values zfill bit_length
""".split()

DOUBLE = ["__init__", "__eq__", "__repr__", "__str__", "__len__"]

WORDS = """
type typing typing_extensions enum Enum IntEnum StrEnum Flag IntFlag Generic Protocol ABC ABCMeta namedtuple
NamedTuple TypedDict TYPE_CHECKING abstractmethod
""".split()


def files():
    return sorted(PACKAGE.rglob("*.py"))


def trees():
    return [(path, ast.parse(path.read_text(encoding="utf-8"))) for path in files()]


def drawn(tree):
    return [node.module for node in ast.walk(tree) if isinstance(node, ast.ImportFrom)]


def bound_names(tree):
    """Every name that a file gives, with the node that gives it."""
    names = []
    for node in ast.walk(tree):
        if isinstance(node, (ast.FunctionDef, ast.ClassDef)):
            names.append(node.name)
        elif isinstance(node, ast.arg):
            names.append(node.arg)
        elif isinstance(node, ast.Name) and isinstance(node.ctx, ast.Store):
            names.append(node.id)
        elif isinstance(node, ast.alias):
            names.append(node.asname or node.name)
        elif isinstance(node, ast.Attribute) and isinstance(node.ctx, ast.Store):
            names.append(node.attr)
    return names


class Files(unittest.TestCase):
    def test_the_package_holds_plain_files_alone(self):
        self.assertTrue((PACKAGE / "__init__.py").is_file())
        for path in PACKAGE.rglob("*"):
            if "__pycache__" not in path.parts:
                self.assertTrue(path.is_file() and re.fullmatch(r"[a-z0-9_]+\.py", path.name), path)

    def test_signs_and_sizes(self):
        for path in files():
            text = path.read_bytes().decode("ascii")
            self.assertTrue(all(sign == "\n" or " " <= sign <= "~" for sign in text), path)
            lines = text.split("\n")
            self.assertLessEqual(len(lines), 400, path)
            self.assertLessEqual(max(len(line) for line in lines), 120, path)

    def test_words_that_are_not_used(self):
        for path in files():
            words = re.findall(r"\w+", path.read_text(encoding="utf-8"))
            self.assertEqual([word for word in words if word in WORDS], [], path)
            self.assertEqual([w for w in words if re.search("dataclass|overload|contextmanager", w)], [], path)

    def test_functions_are_short(self):
        for path, tree in trees():
            for node in ast.walk(tree):
                if isinstance(node, ast.FunctionDef):
                    self.assertLessEqual(node.end_lineno - node.lineno + 1, 40, (path, node.name))


class Forms(unittest.TestCase):
    def test_statements_and_expressions(self):
        for path, tree in trees():
            for node in ast.walk(tree):
                where = (path, getattr(node, "lineno", 0), type(node).__name__)
                self.assertIn(type(node).__name__, NODES, where)
                if isinstance(node, (ast.FunctionDef, ast.ClassDef)):
                    self.assertEqual(node.decorator_list, [], where)
                if isinstance(node, ast.arguments):
                    self.assertFalse(node.vararg or node.kwarg or node.kwonlyargs or node.posonlyargs, where)
                if isinstance(node, (ast.For, ast.While)):
                    self.assertEqual(node.orelse, [], where)
                if isinstance(node, ast.Assign):
                    self.assertEqual(len(node.targets), 1, where)
                if isinstance(node, ast.Constant):
                    self.assertIn(type(node.value), (int, str, bool, type(None)), where)
                if isinstance(node, ast.comprehension):
                    self.assertLessEqual(len(node.ifs), 1, where)
                if isinstance(node, ast.ListComp):
                    self.assertEqual(len(node.generators), 1, where)

    def test_texts_stand_alone_at_the_top_of_a_file_only(self):
        for path, tree in trees():
            self.assertIsNotNone(ast.get_docstring(tree), path)
            for node in ast.walk(tree):
                if isinstance(node, ast.Expr) and node is not tree.body[0]:
                    self.assertIsInstance(node.value, ast.Call, (path, node.lineno))

    def test_names_are_plain_and_none_is_pythons_own(self):
        for path, tree in trees():
            for name in bound_names(tree):
                if name not in DOUBLE:
                    self.assertRegex(name, r"\A[A-Za-z][A-Za-z0-9_]*\Z", path)
                    self.assertFalse(hasattr(builtins, name), (path, name))

    def test_pythons_own_names_that_are_used(self):
        for path, tree in trees():
            bound = bound_names(tree)
            for node in ast.walk(tree):
                if isinstance(node, ast.Name) and node.id not in bound:
                    self.assertIn(node.id, OWN_NAMES, (path, node.lineno))

    def test_is_stands_beside_none_true_and_false_alone(self):
        for path, tree in trees():
            for node in ast.walk(tree):
                if isinstance(node, ast.Compare) and any(isinstance(sign, (ast.Is, ast.IsNot)) for sign in node.ops):
                    beside = node.comparators[0]
                    self.assertIsInstance(beside, ast.Constant, (path, node.lineno))
                    self.assertTrue(beside.value is None or isinstance(beside.value, bool), (path, node.lineno))

    def test_sets_stand_within_sorted_or_len_alone(self):
        for path, tree in trees():
            calls = [node for node in ast.walk(tree) if isinstance(node, ast.Call) and isinstance(node.func, ast.Name)]
            made = [node for node in calls if node.func.id in ("set", "frozenset")]
            held = [node.args[0] for node in calls if node.func.id in ("sorted", "len") and not node.keywords]
            self.assertEqual([node.lineno for node in made if node not in held], [], path)

    def test_methods(self):
        own = [name for path, tree in trees() for name in bound_names(tree)]
        for path, tree in trees():
            for node in ast.walk(tree):
                if isinstance(node, ast.Attribute):
                    self.assertIn(node.attr, METHODS + own + ["__init__"], (path, node.lineno))

    def test_names_at_the_top_are_bound_once(self):
        for path, tree in trees():
            names = [node.name for node in tree.body if isinstance(node, (ast.FunctionDef, ast.ClassDef))]
            names.extend([node.targets[0].id for node in tree.body if isinstance(node, ast.Assign)])
            self.assertEqual(len(names), len(set(names)), path)

    def test_what_stands_at_the_top_of_a_file(self):
        for path, tree in trees():
            for node in tree.body[1:]:
                where = (path, node.lineno)
                self.assertIsInstance(node, (ast.ImportFrom, ast.FunctionDef, ast.ClassDef, ast.Assign), where)
                if isinstance(node, ast.Assign):
                    self.assertIsInstance(node.targets[0], ast.Name, where)
                    plain = (ast.Constant, ast.Tuple, ast.List, ast.Dict, ast.Name, ast.Load)
                    self.assertTrue(all(isinstance(inner, plain) for inner in ast.walk(node.value)), where)

    def test_no_method_is_called_like_a_value_of_an_object(self):
        methods = []
        values = []
        for path, tree in trees():
            for node in ast.walk(tree):
                if isinstance(node, ast.ClassDef):
                    own = [inner.name for inner in node.body if isinstance(inner, ast.FunctionDef)]
                    self.assertEqual(len(own), len(set(own)), (path, node.name))
                    self.assertLessEqual(len(node.bases), 1, (path, node.name))
                    methods.extend(own)
                elif isinstance(node, ast.Attribute) and isinstance(node.ctx, ast.Store):
                    values.append(node.attr)
        self.assertEqual(set(methods) & set(values), set())
        plain_values = ("", 0, [], {}, (), b"", set())
        taken = {name for value in plain_values for name in dir(value) if not name.startswith("__")}
        self.assertEqual((set(methods) | set(values)) & taken, set())


class Imports(unittest.TestCase):
    def test_only_from_the_files_that_define_the_names(self):
        tops = {f"askorder.{path.stem}": tree for path, tree in trees()}
        for path, tree in trees():
            for node in ast.walk(tree):
                if isinstance(node, ast.ImportFrom):
                    self.assertIn(node, tree.body, path)
                    self.assertEqual(node.level, 0, path)
                    self.assertIn(node.module, tops, path)
                    defined = [getattr(top, "name", None) for top in tops[node.module].body]
                    for target in [top for top in tops[node.module].body if isinstance(top, ast.Assign)]:
                        defined.append(target.targets[0].id)
                    for one in node.names:
                        self.assertIn(one.name, defined, path)

    def test_no_name_of_a_file_is_called_like_an_import_of_it(self):
        for path, tree in trees():
            imports = [one.name for node in tree.body if isinstance(node, ast.ImportFrom) for one in node.names]
            names = bound_names(tree)
            self.assertEqual([name for name in imports if names.count(name) != 1], [], path)

    def test_no_two_files_draw_from_one_another(self):
        left = {f"askorder.{path.stem}": drawn(tree) for path, tree in trees()}
        while left:
            free = [name for name, wanted in left.items() if not any(one in left for one in wanted)]
            self.assertTrue(free, sorted(left))
            for name in free:
                left.pop(name)


if __name__ == "__main__":
    unittest.main()
