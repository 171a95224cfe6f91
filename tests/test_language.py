"""The form of the package's files, as far as a walk over their trees can see it."""

import ast
import builtins
import pathlib
import re
import unittest

PACKAGE = pathlib.Path(__file__).resolve().parent.parent / "roughways"

STATEMENTS = (
    ast.FunctionDef, ast.ClassDef, ast.ImportFrom, ast.Assign, ast.AugAssign, ast.If, ast.While, ast.For, ast.Return,
    ast.Break, ast.Continue, ast.Pass, ast.Raise, ast.Try, ast.Expr,
)
AT_TOP = (ast.ImportFrom, ast.Assign, ast.FunctionDef, ast.ClassDef)
EXPRESSIONS = (
    ast.Constant, ast.List, ast.Tuple, ast.Dict, ast.Set, ast.BinOp, ast.UnaryOp, ast.Compare, ast.BoolOp, ast.IfExp,
    ast.Call, ast.Attribute, ast.Subscript, ast.Slice, ast.ListComp, ast.Name, ast.Lambda, ast.JoinedStr,
    ast.FormattedValue,
)
OWN_NAMES = set(
    "len range enumerate zip min max sum abs sorted reversed int str bool list tuple dict set frozenset isinstance ord "
    "repr any all divmod Exception ValueError TypeError KeyError IndexError LookupError ZeroDivisionError "
    "ArithmeticError OverflowError RuntimeError NotImplementedError AttributeError StopIteration".split()
)
OWN_METHODS = set(
    "append clear copy count endswith extend find get index insert isalnum isalpha isdigit islower isspace isupper "
    "items join keys ljust lower lstrip partition pop remove replace reverse rfind rjust rpartition rsplit rstrip "
    "setdefault split splitlines startswith strip update upper values zfill bit_length".split()
)
NOT_NAMES = set(
    "register mro elements open input version_info with_traceback add_note attrgetter breakpoint builtins compile "
    "copyright credits delattr dir eval exec exit gc getattr globals hasattr help id importlib license locals "
    "methodcaller os quit setattr super type vars sys".split()
)
NOT_WORDS = re.compile(
    r"\b(type|typing|typing_extensions|enum|Enum|IntEnum|StrEnum|Flag|IntFlag|Generic|Protocol|ABC|ABCMeta|namedtuple|"
    r"NamedTuple|TypedDict|TYPE_CHECKING|abstractmethod)\b|dataclass|overload|contextmanager"
)
TWO_UNDERSCORES = ("__init__", "__eq__", "__repr__", "__str__", "__len__")


def sources():
    return sorted(PACKAGE.glob("*.py"))


def trees():
    return [(path, ast.parse(path.read_text())) for path in sources()]


def every_node():
    return [(path, node) for path, tree in trees() for node in ast.walk(tree)]


def where(path, node):
    return f"{path.name}:{getattr(node, 'lineno', 0)}"


def names_bound(tree):
    found = []
    for node in ast.walk(tree):
        if isinstance(node, ast.arg):
            found.append((node, node.arg))
        elif isinstance(node, ast.Name) and isinstance(node.ctx, ast.Store):
            found.append((node, node.id))
        elif isinstance(node, (ast.FunctionDef, ast.ClassDef)):
            found.append((node, node.name))
    return found


def is_plain(node, functions):
    if isinstance(node, ast.UnaryOp):
        return isinstance(node.op, ast.USub) and isinstance(node.operand, ast.Constant)
    if isinstance(node, (ast.List, ast.Tuple)):
        return all(is_plain(part, functions) for part in node.elts)
    if isinstance(node, ast.Dict):
        return all(is_plain(part, functions) for part in node.keys + node.values)
    if isinstance(node, ast.Name):
        return node.id in functions
    return isinstance(node, ast.Constant)


class Files(unittest.TestCase):
    def test_only_python_files_with_plain_names(self):
        found = [path.name for path in PACKAGE.iterdir() if path.name != "__pycache__"]
        self.assertIn("__init__.py", found)
        for name in found:
            self.assertRegex(name, r"\A(__init__|[a-z][a-z0-9_]*)\.py\Z")

    def test_signs_and_sizes(self):
        for path in sources():
            rows = path.read_text().split("\n")
            self.assertLessEqual(len(rows), 400, path.name)
            for row in rows:
                self.assertRegex(row, r"\A[ -~]{0,120}\Z", path.name)
                self.assertIsNone(NOT_WORDS.search(row), f"{path.name}: {row}")

    def test_functions_have_at_most_forty_lines(self):
        for path, node in every_node():
            if isinstance(node, ast.FunctionDef):
                self.assertLessEqual(node.end_lineno - node.lineno + 1, 40, where(path, node))


class Tops(unittest.TestCase):
    def test_what_stands_at_a_top(self):
        for path, tree in trees():
            self.assertIsNotNone(ast.get_docstring(tree), path.name)
            functions, bound = [], []
            for node in tree.body[1:]:
                self.assertIsInstance(node, AT_TOP, where(path, node))
                if isinstance(node, ast.Assign):
                    self.assertTrue(is_plain(node.value, functions), where(path, node))
                    bound.append(node.targets[0].id)
                elif isinstance(node, ast.ImportFrom):
                    bound += [name.name for name in node.names]
                else:
                    bound.append(node.name)
                if isinstance(node, ast.FunctionDef):
                    functions.append(node.name)
            self.assertEqual(len(bound), len(set(bound)), path.name)

    def test_imports_draw_from_the_file_that_defines_the_name(self):
        defined = {f"roughways.{path.stem}": [name for node, name in names_bound(tree)] for path, tree in trees()}
        drawn = {}
        for path, tree in trees():
            imports = [node for node in ast.walk(tree) if isinstance(node, ast.ImportFrom)]
            drawn[f"roughways.{path.stem}"] = [node.module for node in imports]
            for node in imports:
                self.assertIn(node, tree.body, where(path, node))
                for name in node.names:
                    self.assertIn(name.name, defined[node.module], where(path, node))
                    self.assertIsNone(name.asname, where(path, node))
        while drawn:
            free = [name for name in drawn if not any(other in drawn for other in drawn[name])]
            self.assertTrue(free, f"these draw from one another: {sorted(drawn)}")
            drawn = {name: drawn[name] for name in drawn if name not in free}


class Nodes(unittest.TestCase):
    def test_statements_and_expressions(self):
        for path, node in every_node():
            if isinstance(node, ast.stmt):
                self.assertIsInstance(node, STATEMENTS, where(path, node))
            if isinstance(node, ast.expr):
                self.assertIsInstance(node, EXPRESSIONS, where(path, node))
            if isinstance(node, (ast.For, ast.While)):
                self.assertEqual(node.orelse, [], where(path, node))
            if isinstance(node, ast.Assign):
                self.assertEqual(len(node.targets), 1, where(path, node))
            if isinstance(node, ast.BinOp):
                self.assertNotIsInstance(node.op, (ast.Div, ast.MatMult), where(path, node))
            if isinstance(node, ast.Constant):
                self.assertIn(node.value.__class__, (int, str, bool, None.__class__), where(path, node))
            if isinstance(node, ast.ListComp):
                self.assertEqual(len(node.generators), 1, where(path, node))
                self.assertLessEqual(len(node.generators[0].ifs), 1, where(path, node))

    def test_a_statement_by_itself_is_a_call(self):
        for path, tree in trees():
            for node in ast.walk(tree):
                if isinstance(node, ast.Expr) and node != tree.body[0]:
                    self.assertIsInstance(node.value, ast.Call, where(path, node))

    def test_functions_and_classes_are_plain(self):
        for path, node in every_node():
            if isinstance(node, (ast.FunctionDef, ast.ClassDef)):
                self.assertEqual(node.decorator_list, [], where(path, node))
            if isinstance(node, ast.arguments):
                self.assertIsNone(node.vararg)
                self.assertIsNone(node.kwarg)
                self.assertEqual(node.kwonlyargs + node.posonlyargs, [])
            if isinstance(node, ast.ClassDef):
                for part in node.body:
                    self.assertIsInstance(part, ast.FunctionDef, where(path, part))

    def test_is_stands_beside_none_true_and_false(self):
        for path, node in every_node():
            if isinstance(node, ast.Compare):
                for sign, right in zip(node.ops, node.comparators):
                    if isinstance(sign, (ast.Is, ast.IsNot)):
                        self.assertIn(getattr(right, "value", 0), (None, True, False), where(path, node))


class Names(unittest.TestCase):
    def test_names_that_are_bound(self):
        for path, tree in trees():
            imports = [name.name for node in tree.body if isinstance(node, ast.ImportFrom) for name in node.names]
            for node, name in names_bound(tree):
                if name not in TWO_UNDERSCORES:
                    self.assertRegex(name, r"\A[A-Za-z][A-Za-z0-9_]*\Z", where(path, node))
                    self.assertFalse(hasattr(builtins, name), where(path, node))
                    self.assertNotIn(name, NOT_NAMES, where(path, node))
                    self.assertNotIn(name, imports, where(path, node))

    def test_names_of_pythons_own_that_are_read(self):
        for path, node in every_node():
            if isinstance(node, ast.Name) and hasattr(builtins, node.id):
                self.assertIn(node.id, OWN_NAMES, where(path, node))

    def test_methods_and_values(self):
        methods = {node.name for path, node in every_node() if isinstance(node, ast.FunctionDef)}
        attributes = [(path, node) for path, node in every_node() if isinstance(node, ast.Attribute)]
        kept = {node.attr for path, node in attributes if isinstance(node.ctx, ast.Store)}
        for path, node in attributes:
            self.assertIn(node.attr, OWN_METHODS | methods | kept, where(path, node))
            self.assertNotIn(node.attr, NOT_NAMES, where(path, node))
        pythons = {name for kind in (str, int, list, dict, set, bytes) for name in dir(kind)}
        self.assertEqual(kept & pythons, set())
        inside = [node for path, node in every_node() if isinstance(node, ast.ClassDef)]
        self.assertEqual({part.name for node in inside for part in node.body} & kept, set())


if __name__ == "__main__":
    unittest.main()
