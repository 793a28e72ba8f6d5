"""The package's files keep to the part of Python that the program is written in, as far as a test can see it."""
import ast
import builtins
import os
import re
import unittest

PACKAGE = os.path.join(os.path.dirname(os.path.dirname(os.path.abspath(__file__))), "grassnake")
OWN_NAMES = (
    "len range enumerate zip min max sum abs sorted reversed int str bool list tuple dict set frozenset isinstance ord "
    "repr any all divmod Exception ValueError TypeError KeyError IndexError LookupError ZeroDivisionError "
    "ArithmeticError OverflowError RuntimeError NotImplementedError AttributeError StopIteration True False None"
).split()
OWN_METHODS = (
    "append clear copy count endswith extend find get index insert isalnum isalpha isdigit islower isspace isupper "
    "items join keys ljust lower lstrip partition pop remove replace reverse rfind rjust rpartition rsplit rstrip "
    "setdefault split splitlines startswith strip update upper values zfill bit_length"
).split()
DOUBLE = ("__init__", "__eq__", "__repr__", "__str__", "__len__")
NODES = (
    "Module FunctionDef ClassDef Return Assign AugAssign For While If Raise Try ImportFrom Expr Pass Break Continue "
    "BoolOp BinOp UnaryOp Lambda IfExp Dict Set List Tuple ListComp comprehension Compare Call FormattedValue "
    "JoinedStr Constant Attribute Subscript Name Slice ExceptHandler arguments arg keyword alias Load Store And Or "
    "Add Sub Mult FloorDiv Mod Pow LShift RShift BitOr BitXor BitAnd Invert Not UAdd USub Eq NotEq Lt LtE Gt GtE Is "
    "IsNot In NotIn"
).split()
BAD_WORDS = re.compile(
    r"\b(type|typing|typing_extensions|enum|Enum|IntEnum|StrEnum|Flag|IntFlag|Generic|Protocol|ABC|ABCMeta|namedtuple"
    r"|NamedTuple|TypedDict|TYPE_CHECKING|abstractmethod)\b|dataclass|overload|contextmanager")

# Names of Python's own values that a program's own methods, or values of its objects, may bear all the same.
FREE_METHODS = set(OWN_METHODS) | {"add", "discard"}
FREE_VALUES = {"count", "index", "title", "find", "get", "join", "lower", "upper", "split", "strip", "copy", "add"}
TAKEN = {name for kind in (str, int, list, dict, set, bytes) for name in dir(kind)} | {"args"}
WALKED = ("zip", "enumerate", "reversed", "range", "items", "keys", "values")
WALKERS = ("list", "tuple", "dict", "sorted", "sum", "any", "all", "enumerate", "zip", "min", "max", "join")
KEYWORDS = {"sorted": ("key", "reverse"), "min": ("key", "default"), "max": ("key", "default"), "sum": ("start",),
            "enumerate": ("start",), "zip": ("strict",)}


def files():
    return sorted(name for name in os.listdir(PACKAGE) if name != "__pycache__")


def source(name):
    with open(os.path.join(PACKAGE, name), encoding="ascii", newline="") as file:
        return file.read()


def trees():
    return [(name, ast.parse(source(name))) for name in files()]


def nodes(*kinds):
    return [(f"{name}:{getattr(node, 'lineno', 0)}", node) for name, tree in trees() for node in ast.walk(tree)
            if isinstance(node, kinds or ast.AST)]


def is_plain(node):
    try:
        ast.literal_eval(node)
    except ValueError:
        return False
    return True


def is_docstring(node):
    return isinstance(node, ast.Expr) and isinstance(node.value, ast.Constant) and isinstance(node.value.value, str)


def called(node):
    """The name by which something is called."""
    return getattr(node.func, "id", getattr(node.func, "attr", ""))


def values_given(tree):
    """The names of the values that objects are given."""
    return [target for node in ast.walk(tree) if isinstance(node, ast.Assign) for target in node.targets
            if isinstance(target, ast.Attribute)]


class Files(unittest.TestCase):
    def test_plain_names(self):
        self.assertIn("__init__.py", files())
        for name in files():
            self.assertRegex(name, r"\A(__init__|__main__|[a-z][a-z0-9_]*)\.py\Z")

    def test_signs_and_size(self):
        for name in files():
            rows = source(name).split("\n")
            self.assertRegex(source(name), r"\A[ -~\n]*\Z", name)
            self.assertLessEqual(len(rows), 401, name)
            for number, row in enumerate(rows, start=1):
                self.assertLessEqual(len(row), 120, f"{name}:{number}")
                self.assertIsNone(BAD_WORDS.search(row), f"{name}:{number}")

    def test_functions_are_short(self):
        for where, node in nodes(ast.FunctionDef):
            self.assertLessEqual(node.end_lineno - node.lineno + 1, 40, where)

    def test_the_top_of_a_file(self):
        for name, tree in trees():
            bound = []
            for place, node in enumerate(tree.body):
                where = f"{name}:{node.lineno}"
                if isinstance(node, ast.Assign):
                    self.assertTrue(is_plain(node.value), where)
                    bound.extend(target.id for target in node.targets)
                elif isinstance(node, (ast.FunctionDef, ast.ClassDef)):
                    bound.append(node.name)
                elif isinstance(node, ast.ImportFrom):
                    bound.extend(alias.asname or alias.name for alias in node.names)
                else:
                    self.assertTrue(place == 0 and is_docstring(node), where)
            self.assertEqual(len(bound), len(set(bound)), name)


class Imports(unittest.TestCase):
    def test_only_own_modules(self):
        for where, node in nodes(ast.ImportFrom):
            self.assertEqual(node.level, 0, where)
            self.assertRegex(node.module, r"\Agrassnake\.[a-z_0-9]+\Z", where)
            self.assertNotIn("*", [alias.name for alias in node.names], where)

    def test_from_the_file_that_defines(self):
        defined = {name[:-3]: [node.name for node in tree.body if isinstance(node, (ast.FunctionDef, ast.ClassDef))]
                   + [target.id for node in tree.body if isinstance(node, ast.Assign) for target in node.targets]
                   for name, tree in trees()}
        for where, node in nodes(ast.ImportFrom):
            for alias in node.names:
                self.assertIn(alias.name, defined[node.module.split(".")[1]], where)

    def test_no_ring(self):
        left = {name[:-3]: {node.module.split(".")[1] for node in ast.walk(tree) if isinstance(node, ast.ImportFrom)}
                for name, tree in trees()}
        while left:
            free = [name for name, drawn in left.items() if not drawn & set(left)]
            self.assertTrue(free, sorted(left))
            for name in free:
                left.pop(name)


class Statements(unittest.TestCase):
    def test_nodes(self):
        for where, node in nodes():
            self.assertIn(type(node).__name__, NODES, where)

    def test_defs_are_plain(self):
        for where, node in nodes(ast.FunctionDef, ast.ClassDef):
            self.assertEqual(node.decorator_list, [], where)
        for where, node in nodes(ast.arguments):
            self.assertFalse(node.vararg or node.kwarg or node.kwonlyargs or node.posonlyargs, where)
            self.assertTrue(all(is_plain(value) for value in node.defaults), where)

    def test_classes_are_plain(self):
        for where, node in nodes(ast.ClassDef):
            self.assertLessEqual(len(node.bases), 1, where)
            self.assertEqual(node.keywords, [], where)
            for part in node.body:
                self.assertIsInstance(part, (ast.FunctionDef, ast.Pass), where)

    def test_loops_and_tries(self):
        for where, node in nodes(ast.For, ast.While):
            self.assertEqual(node.orelse, [], where)
        for where, node in nodes(ast.Try):
            self.assertEqual(node.finalbody, [], where)
        for where, node in nodes(ast.ExceptHandler):
            self.assertIsNotNone(node.type, where)
            self.assertNotIn(getattr(node.type, "id", ""), ("Exception", "TypeError"), where)

    def test_a_row_by_itself_is_a_call(self):
        tops = [tree.body[0] for _, tree in trees() if tree.body]
        places = [(node.lineno, node.value.value) for node in tops if is_docstring(node)]
        for where, node in nodes(ast.Expr):
            if not (is_docstring(node) and (node.lineno, node.value.value) in places):
                self.assertIsInstance(node.value, ast.Call, where)

    def test_one_target(self):
        for where, node in nodes(ast.Assign):
            self.assertEqual(len(node.targets), 1, where)

    def test_comprehensions(self):
        for where, node in nodes(ast.ListComp):
            self.assertEqual(len(node.generators), 1, where)
            self.assertLessEqual(len(node.generators[0].ifs), 1, where)


class Values(unittest.TestCase):
    def test_constants(self):
        for where, node in nodes(ast.Constant):
            self.assertIn(type(node.value), (int, str, bool, type(None)), where)
            self.assertNotIn("%", str(node.value), where)

    def test_is_stands_beside_none_and_truths(self):
        for where, node in nodes(ast.Compare):
            for sign, other in zip(node.ops, node.comparators):
                if isinstance(sign, (ast.Is, ast.IsNot)):
                    self.assertIn(getattr(other, "value", 0), (None, True, False), where)

    def test_texts_are_filled_plainly(self):
        for where, node in nodes(ast.FormattedValue):
            self.assertIsInstance(node.value, ast.Name, where)
            self.assertIsNone(node.format_spec, where)

    def test_names(self):
        for where, node in nodes(ast.Name):
            self.assertRegex(node.id, r"\A[A-Za-z]", where)
            if hasattr(builtins, node.id):
                self.assertIn(node.id, OWN_NAMES, where)
                self.assertIsInstance(node.ctx, ast.Load, where)
        for where, node in nodes(ast.arg):
            self.assertFalse(hasattr(builtins, node.arg) or node.arg.startswith("_"), where)
        for where, node in nodes(ast.FunctionDef):
            self.assertTrue(node.name in DOUBLE or not node.name.startswith("_"), where)

    def test_methods(self):
        own = {node.name for _, node in nodes(ast.FunctionDef)}
        for where, node in nodes(ast.Call):
            if isinstance(node.func, ast.Attribute):
                self.assertTrue(node.func.attr in OWN_METHODS or node.func.attr in own, where)

    def test_keywords(self):
        own = {node.name for _, node in nodes(ast.FunctionDef, ast.ClassDef)}
        for where, node in nodes(ast.Call):
            for keyword in node.keywords:
                if called(node) not in own:
                    self.assertIn(keyword.arg, KEYWORDS.get(called(node), ()), where)

    def test_walked_at_once(self):
        for name, tree in trees():
            walked = [node.iter for node in ast.walk(tree) if isinstance(node, (ast.For, ast.comprehension))]
            walked += [node.args[0] for node in ast.walk(tree)
                       if isinstance(node, ast.Call) and called(node) in WALKERS and node.args]
            for node in ast.walk(tree):
                if isinstance(node, ast.Call) and called(node) in WALKED:
                    self.assertIn(node, walked, f"{name}:{node.lineno}")


class Objects(unittest.TestCase):
    def test_methods_and_values_are_apart(self):
        methods = {node.name for _, kind in nodes(ast.ClassDef) for node in kind.body
                   if isinstance(node, ast.FunctionDef)}
        values = {target.attr for _, tree in trees() for target in values_given(tree)}
        self.assertEqual(methods & values, set())
        self.assertEqual(((methods - set(DOUBLE)) & TAKEN) - FREE_METHODS, set())
        self.assertEqual((values & TAKEN) - FREE_VALUES, set())

    def test_no_method_stands_twice(self):
        for where, kind in nodes(ast.ClassDef):
            names = [node.name for node in kind.body if isinstance(node, ast.FunctionDef)]
            self.assertEqual(len(names), len(set(names)), where)

    def test_locals_are_not_called_like_classes_and_imports(self):
        for name, tree in trees():
            taken = {alias.asname or alias.name for node in tree.body if isinstance(node, ast.ImportFrom)
                     for alias in node.names} | {node.name for node in tree.body if isinstance(node, ast.ClassDef)}
            for node in ast.walk(tree):
                if isinstance(node, ast.arg):
                    self.assertNotIn(node.arg, taken, f"{name}:{node.lineno}")
                if isinstance(node, ast.Name) and isinstance(node.ctx, ast.Store):
                    self.assertNotIn(node.id, taken, f"{name}:{node.lineno}")


if __name__ == "__main__":
    unittest.main()
