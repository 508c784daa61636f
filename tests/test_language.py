"""Those rules of LANGUAGE.md that a walk over the package's files can see."""

import ast
import pathlib
import re
import unittest

PACKAGE = pathlib.Path(__file__).resolve().parent.parent / "wholekept"
FILES = sorted(PACKAGE.rglob("*.py"))

NODES = """
Module FunctionDef ClassDef arguments arg Lambda Return Assign AugAssign For While If Raise Try ExceptHandler Pass Break
Continue Expr ImportFrom alias Load Store BoolOp And Or BinOp Add Sub Mult FloorDiv Mod Pow BitAnd BitOr BitXor LShift
RShift UnaryOp Not USub Invert Compare Eq NotEq Lt LtE Gt GtE Is IsNot In NotIn IfExp Call keyword Attribute Subscript
Slice List Tuple Dict Set ListComp comprehension JoinedStr FormattedValue Constant Name
""".split()
BUILTINS = """
len range enumerate zip min max sum abs sorted reversed int str bool list tuple dict set frozenset isinstance ord repr
any all divmod Exception ValueError TypeError KeyError IndexError LookupError ZeroDivisionError ArithmeticError
OverflowError RuntimeError NotImplementedError AttributeError StopIteration
""".split()
METHODS = """
append clear copy count endswith extend find get index insert isalnum isalpha isdigit islower isspace isupper items join
keys ljust lower lstrip partition pop remove replace reverse rfind rjust rpartition rsplit rstrip setdefault split
splitlines startswith strip update upper values zfill bit_length
""".split()
WORDS = """
type typing typing_extensions enum Enum IntEnum StrEnum Flag IntFlag Generic Protocol ABC ABCMeta namedtuple NamedTuple
TypedDict TYPE_CHECKING abstractmethod
""".split()
NOWHERE = """
register mro elements open input version_info with_traceback add_note format format_map f_back tb_next co_names
""".split()
DUNDERS = ("__init__", "__eq__", "__repr__", "__str__", "__len__")
PYTHONS_OWN = set(dir(__builtins__) if not isinstance(__builtins__, dict) else __builtins__)


def trees():
    return [(path, ast.parse(path.read_text(encoding="ascii"))) for path in FILES]


def walked(kind):
    return [(path, node) for path, tree in trees() for node in ast.walk(tree) if isinstance(node, kind)]


def is_plain(node, functions):
    if isinstance(node, ast.UnaryOp) and isinstance(node.op, ast.USub):
        node = node.operand
    if isinstance(node, ast.Constant):
        return node.value is None or isinstance(node.value, (int, str))
    if isinstance(node, (ast.List, ast.Tuple)):
        return all(is_plain(part, functions) for part in node.elts)
    if isinstance(node, ast.Dict):
        return all(is_plain(part, functions) for part in node.keys + node.values)
    return isinstance(node, ast.Name) and node.id in functions


class Files(unittest.TestCase):
    def test_names(self):
        self.assertTrue(PACKAGE / "__init__.py" in FILES)
        for path in PACKAGE.rglob("*"):
            if "__pycache__" not in path.parts:
                self.assertRegex(path.name, r"^(__init__|__main__|[a-z][a-z0-9_]*)(\.py)?$")
                self.assertNotIn(path.stem, PYTHONS_OWN)
                self.assertTrue(path.is_dir() or path.suffix == ".py", path)

    def test_signs_and_size(self):
        for path in FILES:
            rows = path.read_bytes().decode("ascii").split("\n")
            self.assertLessEqual(len(rows), 401, path)
            for row in rows:
                self.assertRegex(row, r"^[ -~]{0,120}$", path)
        for path, node in walked(ast.FunctionDef):
            self.assertLessEqual(node.end_lineno - node.lineno + 1, 40, (path, node.name))

    def test_words_that_stand_nowhere(self):
        for path in FILES:
            found = re.findall(r"[A-Za-z_0-9]+", path.read_text())
            self.assertEqual([word for word in found if word in WORDS], [], path)
            self.assertNotRegex(path.read_text(), "dataclass|overload|contextmanager")


class Statements(unittest.TestCase):
    def test_only_the_parts_of_the_language(self):
        for path, node in walked(ast.AST):
            self.assertIn(node.__class__.__name__, NODES, (path, getattr(node, "lineno", 0)))

    def test_top_of_a_file(self):
        for path, tree in trees():
            functions, bound = [], []
            for number, node in enumerate(tree.body):
                if isinstance(node, ast.Expr):
                    self.assertTrue(number == 0 and isinstance(node.value.value, str), (path, node.lineno))
                elif isinstance(node, ast.Assign):
                    self.assertTrue(is_plain(node.value, functions), (path, node.lineno))
                    bound.append(node.targets[0].id)
                elif isinstance(node, ast.ImportFrom):
                    bound += [name.name for name in node.names]
                else:
                    self.assertIsInstance(node, (ast.FunctionDef, ast.ClassDef))
                    functions.append(node.name)
                    bound.append(node.name)
            self.assertEqual(len(bound), len(set(bound)), path)

    def test_imports(self):
        defined = {}
        for path, tree in trees():
            defined["wholekept." + path.stem] = [node.name for node in tree.body if hasattr(node, "name")] + [
                node.targets[0].id for node in tree.body if isinstance(node, ast.Assign)]
        for path, node in walked(ast.ImportFrom):
            self.assertEqual(node.level, 0)
            for name in node.names:
                self.assertIn(name.name, defined[node.module], (path, node.lineno))
                self.assertIsNone(name.asname)

    def test_no_circle_of_imports(self):
        drawn = {"wholekept." + path.stem: [node.module for node in tree.body if isinstance(node, ast.ImportFrom)]
                 for path, tree in trees()}
        while drawn:
            free = [name for name in drawn if not set(drawn[name]) & set(drawn)]
            self.assertNotEqual(free, [], f"a circle among {sorted(drawn)}")
            drawn = {name: drawn[name] for name in drawn if name not in free}

    def test_every_import_is_used(self):
        for path, tree in trees():
            used = {node.id for node in ast.walk(tree) if isinstance(node, ast.Name)}
            for node in tree.body:
                if isinstance(node, ast.ImportFrom):
                    for name in node.names:
                        self.assertIn(name.name, used, path)

    def test_functions_and_classes(self):
        for path, node in walked(ast.FunctionDef):
            plain = node.args
            self.assertFalse(plain.vararg or plain.kwarg or plain.kwonlyargs or plain.posonlyargs, (path, node.name))
            self.assertEqual(node.decorator_list, [])
            self.assertIsNone(node.returns)
            if node.name.startswith("_"):
                self.assertIn(node.name, DUNDERS)
        for path, node in walked(ast.ClassDef):
            self.assertLessEqual(len(node.bases), 1)
            self.assertEqual(node.decorator_list + node.keywords, [])
            for part in node.body:
                is_docstring = isinstance(part, ast.Expr) and isinstance(part.value, ast.Constant)
                self.assertTrue(is_docstring or isinstance(part, ast.FunctionDef), (path, part.lineno))

    def test_assignments_and_tests(self):
        for path, node in walked(ast.Assign):
            self.assertEqual(len(node.targets), 1)
            self.assertNotIsInstance(node.targets[0], (ast.Tuple, ast.List, ast.Starred), (path, node.lineno))
        for path, node in walked((ast.For, ast.While)):
            self.assertEqual(node.orelse, [], (path, node.lineno))
        for path, node in walked(ast.ListComp):
            self.assertEqual(len(node.generators), 1, (path, node.lineno))
            self.assertLessEqual(len(node.generators[0].ifs), 1, (path, node.lineno))
        for path, node in walked(ast.Compare):
            for sign, right in zip(node.ops, node.comparators):
                if isinstance(sign, (ast.Is, ast.IsNot)):
                    self.assertTrue(isinstance(right, ast.Constant) and right.value in (None, True, False))
        for path, node in walked(ast.Constant):
            self.assertIsInstance(node.value, (int, str, type(None)))
            if isinstance(node.value, str):
                self.assertNotIn("%", node.value)


class Loops(unittest.TestCase):
    CHANGES = "append clear extend insert pop remove reverse setdefault update".split()

    def test_what_a_loop_walks_is_not_changed_in_it(self):
        for path, loop in walked(ast.For):
            names = {ast.dump(node) for node in ast.walk(loop.iter) if isinstance(node, (ast.Name, ast.Attribute))}
            for node in [inner for part in loop.body for inner in ast.walk(part)]:
                if isinstance(node, ast.Call) and getattr(node.func, "attr", "") in self.CHANGES:
                    self.assertNotIn(ast.dump(node.func.value), names, (path, node.lineno))
                if isinstance(node, ast.Subscript) and isinstance(node.ctx, ast.Store):
                    self.assertNotIn(ast.dump(node.value), names, (path, node.lineno))


class Names(unittest.TestCase):
    def test_no_name_of_pythons_own_but_the_listed(self):
        for path, node in walked(ast.Name):
            if isinstance(node.ctx, ast.Load):
                self.assertTrue(node.id in BUILTINS or node.id not in PYTHONS_OWN, (path, node.id))
            else:
                self.assertNotIn(node.id, PYTHONS_OWN, path)
            self.assertFalse(node.id.startswith("_"), (path, node.id))
        for path, node in walked(ast.arg):
            self.assertNotIn(node.arg, PYTHONS_OWN, path)

    def test_names_that_are_not_used(self):
        for path, node in walked((ast.Name, ast.Attribute, ast.arg, ast.FunctionDef, ast.ClassDef)):
            name = [getattr(node, part) for part in ("id", "attr", "arg", "name") if hasattr(node, part)][0]
            self.assertNotIn(name, NOWHERE, path)

    def test_locals_are_unlike_imports_and_classes(self):
        for path, tree in trees():
            imported = {name.name for node in tree.body if isinstance(node, ast.ImportFrom) for name in node.names}
            taken = imported | {node.name for node in tree.body if isinstance(node, (ast.ClassDef, ast.FunctionDef))}
            for node in ast.walk(tree):
                if isinstance(node, ast.arg):
                    self.assertNotIn(node.arg, taken, path)
                if isinstance(node, ast.Name) and isinstance(node.ctx, ast.Store):
                    self.assertNotIn(node.id, taken, path)

    def test_methods_are_listed_or_own(self):
        own = {node.name for path, node in walked(ast.FunctionDef)}
        for path, node in walked(ast.Call):
            if isinstance(node.func, ast.Attribute):
                self.assertTrue(node.func.attr in METHODS or node.func.attr in own, (path, node.func.attr))

    def test_values_of_objects_are_unlike_methods(self):
        methods = {part.name for path, node in walked(ast.ClassDef) for part in node.body
                   if isinstance(part, ast.FunctionDef)}
        pythons = set(dir(str) + dir(int) + dir(list) + dir(dict) + dir(set) + dir(bytes))
        for path, node in walked(ast.Attribute):
            if isinstance(node.ctx, ast.Store):
                self.assertNotIn(node.attr, methods | pythons, path)

    def test_sets_are_not_kept(self):
        for path, tree in trees():
            for node in ast.walk(tree):
                for child in ast.iter_child_nodes(node):
                    if isinstance(child, ast.Call) and getattr(child.func, "id", "") in ("set", "frozenset"):
                        self.assertTrue(isinstance(node, ast.Call) and getattr(node.func, "id", "") in ("len", "sorted")
                                        or isinstance(node, (ast.Compare, ast.BinOp)), (path, child.lineno))


if __name__ == "__main__":
    unittest.main()
