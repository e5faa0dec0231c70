"""The part of Python that the package keeps to: those of its rules that can be seen file by file."""

import ast
import builtins
import pathlib
import re
import unittest

FOLDER = pathlib.Path(__file__).resolve().parent.parent / "switchkinds"

NODES = (
    ast.Module, ast.ImportFrom, ast.alias, ast.FunctionDef, ast.arguments, ast.arg, ast.Lambda, ast.ClassDef,
    ast.Assign, ast.AugAssign, ast.If, ast.While, ast.For, ast.Return, ast.Break, ast.Continue, ast.Pass, ast.Raise,
    ast.Try, ast.ExceptHandler, ast.Expr, ast.Constant, ast.List, ast.Tuple, ast.Dict, ast.Set, ast.BinOp, ast.UnaryOp,
    ast.BoolOp, ast.Compare, ast.IfExp, ast.Call, ast.keyword, ast.Attribute, ast.Subscript, ast.Slice, ast.ListComp,
    ast.comprehension, ast.JoinedStr, ast.FormattedValue, ast.Name, ast.expr_context, ast.operator, ast.unaryop,
    ast.boolop, ast.cmpop)
OUT = (ast.Div, ast.MatMult, ast.Starred)
BUILT_IN = set("""len range enumerate zip min max sum abs sorted reversed int str bool list tuple dict set frozenset
    isinstance ord repr any all divmod Exception ValueError TypeError KeyError IndexError LookupError ZeroDivisionError
    ArithmeticError OverflowError RuntimeError NotImplementedError AttributeError StopIteration""".split())
METHODS = set("""append clear copy count endswith extend find get index insert isalnum isalpha isdigit islower isspace
    isupper items join keys ljust lower lstrip partition pop remove replace reverse rfind rjust rpartition rsplit rstrip
    setdefault split splitlines startswith strip update upper values zfill bit_length""".split())
WORDS = re.compile(r"\b(type|typing|typing_extensions|enum|Enum|IntEnum|StrEnum|Flag|IntFlag|Generic|Protocol|ABC"
                   r"|ABCMeta|namedtuple|NamedTuple|TypedDict|TYPE_CHECKING|abstractmethod)\b"
                   r"|dataclass|overload|contextmanager")
SPECIAL = ("__init__", "__eq__", "__repr__", "__str__", "__len__")
WALKED = ("zip", "enumerate", "reversed", "range", "items", "keys", "values")
WALKERS = ("list", "tuple", "dict", "sorted", "sum", "any", "all", "enumerate", "zip", "min", "max", "join")
PYTHONS_VALUES = [name for kind in (str, int, list, dict, set, bytes, tuple) for name in dir(kind)]
PYTHONS_OWN = [name for name in dir(builtins) if not name.startswith("__")]


def files():
    return sorted(FOLDER.glob("*.py"))


def tree_of(file):
    return ast.parse(file.read_text(encoding="utf-8"))


def bound_names(tree):
    for node in ast.walk(tree):
        if isinstance(node, ast.Name) and isinstance(node.ctx, ast.Store):
            yield node.id
        elif isinstance(node, ast.arg):
            yield node.arg
        elif isinstance(node, (ast.FunctionDef, ast.ClassDef)):
            yield node.name


def top_names(tree):
    for node in tree.body:
        if isinstance(node, (ast.FunctionDef, ast.ClassDef)):
            yield node.name
        elif isinstance(node, ast.Assign):
            yield node.targets[0].id


def with_parents(tree):
    for above in ast.walk(tree):
        for node in ast.iter_child_nodes(above):
            yield node, above


def called(node):
    """The name by which something is called, None where nothing is."""
    if not isinstance(node, ast.Call):
        return None
    return node.func.attr if isinstance(node.func, ast.Attribute) else getattr(node.func, "id", None)


class Language(unittest.TestCase):
    def test_files(self):
        found = [path.name for path in FOLDER.iterdir() if path.name != "__pycache__"]
        for name in found:
            self.assertRegex(name, r"\A[a-z0-9_]+\.py\Z")
            self.assertFalse(name.startswith("test") or name[:-3] in PYTHONS_OWN, name)
        self.assertIn("__init__.py", found)

    def test_signs_and_sizes(self):
        for file in files():
            text = file.read_text(encoding="utf-8")
            self.assertRegex(text, r"\A[ -~\n]*\Z", file.name)
            self.assertLessEqual(len(text.splitlines()), 400, file.name)
            self.assertLessEqual(max(map(len, text.splitlines())), 120, file.name)
            self.assertIsNone(WORDS.search(text), file.name)

    def test_forms(self):
        for file in files():
            for node in ast.walk(tree_of(file)):
                where = f"{file.name}:{getattr(node, 'lineno', 0)}"
                self.assertIsInstance(node, NODES, where)
                self.assertNotIsInstance(node, OUT, where)
                if isinstance(node, ast.FunctionDef):
                    self.assertLessEqual(node.end_lineno - node.lineno + 1, 40, where)
                    self.assertFalse(node.decorator_list or node.args.vararg or node.args.kwarg, where)
                    self.assertFalse(node.args.kwonlyargs or node.args.posonlyargs, where)
                elif isinstance(node, ast.Assign):
                    self.assertEqual(len(node.targets), 1, where)
                elif isinstance(node, (ast.For, ast.While)):
                    self.assertFalse(node.orelse, where)
                elif isinstance(node, ast.ListComp):
                    self.assertEqual(len(node.generators), 1, where)
                    self.assertLessEqual(len(node.generators[0].ifs), 1, where)
                elif isinstance(node, ast.Constant):
                    self.assertIsInstance(node.value, (int, str, type(None)), where)
                elif isinstance(node, ast.Compare) and isinstance(node.ops[0], (ast.Is, ast.IsNot)):
                    self.assertIsInstance(getattr(node.comparators[0], "value", 0), (bool, type(None)), where)
                elif isinstance(node, ast.BinOp) and isinstance(node.op, ast.Pow):
                    self.assertIsInstance(node.right, ast.Constant, where)

    def test_top_of_a_file(self):
        for file in files():
            tree = tree_of(file)
            self.assertIsNotNone(ast.get_docstring(tree), file.name)
            for node in tree.body[1:]:
                self.assertIsInstance(node, (ast.ImportFrom, ast.FunctionDef, ast.ClassDef, ast.Assign), file.name)
            names = list(top_names(tree))
            self.assertEqual(len(names), len(set(names)), file.name)

    def test_names(self):
        for file in files():
            tree = tree_of(file)
            own = set(bound_names(tree))
            imported = {alias.name for node in tree.body if isinstance(node, ast.ImportFrom) for alias in node.names}
            for name in own - set(SPECIAL):
                self.assertRegex(name, r"\A[A-Za-z][A-Za-z0-9_]*\Z", file.name)
                self.assertNotIn(name, PYTHONS_OWN, file.name)
                self.assertNotIn(name, imported, file.name)
            for node in ast.walk(tree):
                if isinstance(node, ast.Name) and isinstance(node.ctx, ast.Load):
                    self.assertIn(node.id, own | imported | BUILT_IN, file.name)

    def test_methods(self):
        own = {node.name for file in files() for node in ast.walk(tree_of(file)) if isinstance(node, ast.FunctionDef)}
        for file in files():
            for node in ast.walk(tree_of(file)):
                if isinstance(node, ast.Call) and isinstance(node.func, ast.Attribute):
                    self.assertIn(node.func.attr, METHODS | own, f"{file.name}:{node.lineno}")

    def test_values_of_objects(self):
        methods = {method.name for file in files() for node in tree_of(file).body if isinstance(node, ast.ClassDef)
                   for method in node.body if isinstance(method, ast.FunctionDef)}
        for file in files():
            for node in ast.walk(tree_of(file)):
                if isinstance(node, ast.Attribute) and isinstance(node.ctx, ast.Store):
                    where = f"{file.name}:{node.lineno}"
                    self.assertIsInstance(node.value, ast.Name, where)
                    self.assertNotIn(node.attr, methods, where)
                    self.assertNotIn(node.attr, PYTHONS_VALUES, where)

    def test_names_of_methods(self):
        for file in files():
            for node in tree_of(file).body:
                if isinstance(node, ast.ClassDef):
                    self.assertFalse(node.decorator_list or node.keywords or len(node.bases) > 1, node.name)
                    names = [method.name for method in node.body if isinstance(method, ast.FunctionDef)]
                    self.assertEqual(len(names), len(set(names)), node.name)
                    for name in set(names) - set(SPECIAL):
                        self.assertTrue(name in METHODS or name not in PYTHONS_VALUES, name)

    def test_top_values_are_read_alone(self):
        for file in files():
            tree = tree_of(file)
            for node in tree.body:
                if isinstance(node, ast.Assign):
                    self.assertIsInstance(ast.literal_eval(node.value), (int, str, tuple, list, dict), file.name)

    def test_texts_hold_no_percent_sign(self):
        for file in files():
            for node in ast.walk(tree_of(file)):
                if isinstance(node, ast.Constant) and isinstance(node.value, str):
                    self.assertNotIn("%", node.value, f"{file.name}:{node.lineno}")

    def test_walked_at_once(self):
        for file in files():
            for node, above in with_parents(tree_of(file)):
                if called(node) in WALKED:
                    where = f"{file.name}:{node.lineno}"
                    if isinstance(above, ast.Call):
                        self.assertIn(called(above), WALKERS, where)
                        self.assertIs(above.args[0], node, where)
                        self.assertTrue(called(above) not in ("min", "max") or len(above.args) == 1, where)
                    else:
                        self.assertIsInstance(above, (ast.For, ast.comprehension), where)

    def test_sets_on_the_spot(self):
        for file in files():
            for node, above in with_parents(tree_of(file)):
                if called(node) in ("set", "frozenset") or isinstance(node, ast.Set):
                    where = f"{file.name}:{node.lineno}"
                    if isinstance(above, ast.Call):
                        self.assertIn(called(above), ("sorted", "len"), where)
                        self.assertFalse(above.keywords, where)
                    else:
                        self.assertIsInstance(above, (ast.Compare, ast.BinOp), where)

    def test_imports(self):
        drawn = {}
        for file in files():
            rows = [node for node in ast.walk(tree_of(file)) if isinstance(node, ast.ImportFrom)]
            drawn[file.stem] = {row.module.split(".")[-1] for row in rows}
            for row in rows:
                self.assertRegex(row.module, r"\Aswitchkinds\.[a-z0-9_]+\Z", file.name)
                self.assertEqual(row.level, 0, file.name)
                defined = list(top_names(tree_of(FOLDER / (row.module.split(".")[-1] + ".py"))))
                for alias in row.names:
                    self.assertIn(alias.name, defined, file.name)
        while drawn:
            free = [file for file in drawn if not drawn[file] & set(drawn)]
            self.assertTrue(free, f"files that draw from one another: {sorted(drawn)}")
            drawn = {file: drawn[file] for file in drawn if file not in free}


if __name__ == "__main__":
    unittest.main()
