"""The package's files against the rules of the language that can be seen in one file's tree."""

import ast
import builtins
import pathlib
import re
import unittest

FOLDER = pathlib.Path(__file__).resolve().parent.parent / "cellnames"
FILES = sorted(FOLDER.glob("*.py"))

NODES = (
    "Module Expr Constant ImportFrom alias FunctionDef arguments arg ClassDef Assign AugAssign If While For Return "
    "Break Continue Pass Raise Try ExceptHandler Call Attribute Name Load Store Subscript Slice List Tuple Dict "
    "ListComp comprehension BinOp UnaryOp BoolOp Compare IfExp Lambda keyword JoinedStr FormattedValue "
    "Add Sub Mult FloorDiv Mod Pow BitAnd BitOr BitXor LShift RShift Invert USub Not And Or Eq NotEq Lt LtE Gt GtE "
    "In NotIn Is IsNot"
).split()

BUILTINS = (
    "len range enumerate zip min max sum abs sorted reversed int str bool list tuple dict set frozenset isinstance "
    "ord repr any all divmod Exception ValueError TypeError KeyError IndexError LookupError ZeroDivisionError "
    "ArithmeticError OverflowError RuntimeError NotImplementedError StopIteration"
).split()

METHODS = (
    "append clear copy count endswith extend find get index insert isalnum isalpha isdigit islower isspace isupper "
    "items join keys ljust lower lstrip partition pop remove replace reverse rfind rjust rpartition rsplit rstrip "
    "setdefault split splitlines startswith strip update upper values zfill bit_length"
).split()

UNUSED_WORDS = (
    "type typing typing_extensions enum Enum IntEnum StrEnum Flag IntFlag Generic Protocol ABC ABCMeta namedtuple "
    "NamedTuple TypedDict TYPE_CHECKING abstractmethod"
).split()

UNUSED_NAMES = (
    "register mro elements open input version_info with_traceback add_note attrgetter breakpoint compile copyright "
    "credits delattr dir eval exec exit gc getattr globals hasattr help id importlib license locals methodcaller os "
    "quit setattr super vars sys chr format format_map"
).split()

OF_PYTHONS_VALUES = {name for kind in (str, int, list, dict, set, bytes, tuple) for name in dir(kind)}
VALUES_TOO = "count index title find get join lower upper split strip copy add".split()


def tree_of(path):
    return ast.parse(path.read_text("utf-8"))


def bound_in(function):
    names = {one.arg for one in function.args.args}
    for node in ast.walk(function):
        if isinstance(node, ast.Name) and isinstance(node.ctx, ast.Store):
            names.add(node.id)
    return names


def is_plain(node, functions):
    if isinstance(node, ast.UnaryOp) and isinstance(node.op, ast.USub):
        node = node.operand
    if isinstance(node, (ast.List, ast.Tuple)):
        return all(is_plain(one, functions) for one in node.elts)
    if isinstance(node, ast.Dict):
        return all(is_plain(one, functions) for one in node.keys + node.values)
    if isinstance(node, ast.Name):
        return node.id in functions
    return isinstance(node, ast.Constant) and isinstance(node.value, (int, str, type(None)))


def is_plain_default(node):
    """A whole number, a text, True, False or None, written out."""
    if isinstance(node, ast.UnaryOp) and isinstance(node.op, ast.USub):
        return isinstance(node.operand, ast.Constant) and type(node.operand.value) is int
    return isinstance(node, ast.Constant) and type(node.value) in (int, str, bool, type(None))


class Language(unittest.TestCase):
    path = FOLDER

    def each(self):
        for self.path in FILES:
            yield self.path, tree_of(self.path)

    def _formatMessage(self, msg, standardMsg):
        return f"{self.path.name}: " + super()._formatMessage(msg, standardMsg)

    def test_files(self):
        self.assertIn("__init__.py", [path.name for path in FILES])
        for path in FOLDER.iterdir():
            if path.name != "__pycache__":
                self.assertRegex(path.name, r"^([a-z][a-z0-9_]*|__init__)\.py$")
                self.assertNotIn(path.stem, dir(builtins) + ["test", "tests", "testing", "site", "conftest"] + UNUSED_WORDS)

    def test_rows_and_signs(self):
        for path, tree in self.each():
            source = path.read_text("utf-8")
            rows = source.split("\n")
            self.assertLessEqual(len(rows) - 1, 400)
            self.assertLessEqual(max(len(row) for row in rows), 120)
            self.assertRegex(source, r"\A[ -~\n]*\Z")
            self.assertFalse(set(re.findall(r"\w+", source)) & set(UNUSED_WORDS))
            self.assertNotRegex(source, "dataclass|overload|contextmanager")

    def test_only_known_nodes(self):
        for path, tree in self.each():
            for node in ast.walk(tree):
                self.assertIn(node.__class__.__name__, NODES, getattr(node, "lineno", 0))

    def test_top(self):
        for path, tree in self.each():
            self.assertIsNotNone(ast.get_docstring(tree))
            functions, bound = [], []
            for node in tree.body[1:]:
                if isinstance(node, ast.ImportFrom):
                    self.assertRegex(node.module, r"^cellnames\.\w+$")
                    self.assertEqual(node.level, 0)
                    for one in node.names:
                        self.assertIsNone(one.asname)
                        self.assertIn(one.name, defined_in(FOLDER / (node.module.split(".")[1] + ".py")))
                        bound.append(one.name)
                elif isinstance(node, ast.Assign):
                    self.assertEqual(len(node.targets), 1)
                    self.assertTrue(is_plain(node.value, functions), node.lineno)
                    if isinstance(node.value, (ast.List, ast.Dict)):
                        inner = [one for one in ast.walk(node.value) if isinstance(one, (ast.List, ast.Dict))]
                        self.assertEqual(len(inner), 1)
                    bound.append(node.targets[0].id)
                else:
                    self.assertIsInstance(node, (ast.FunctionDef, ast.ClassDef))
                    bound.append(node.name)
                    functions.append(node.name)
            self.assertEqual(len(bound), len(set(bound)))

    def test_no_file_draws_from_itself_in_whatever_many_steps(self):
        drawn = {path.stem: [node.module.split(".")[1] for node in tree_of(path).body if isinstance(node, ast.ImportFrom)]
                 for path in FILES}
        reached = {name: set(others) for name, others in drawn.items()}
        for step in reached:
            for name in reached:
                for other in list(reached[name]):
                    reached[name] |= reached[other]
        for name in reached:
            self.assertNotIn(name, reached[name])

    def test_functions(self):
        for path, tree in self.each():
            classes = [node.name for node in tree.body if isinstance(node, ast.ClassDef)]
            drawn = [one.name for node in tree.body if isinstance(node, ast.ImportFrom) for one in node.names]
            for node in ast.walk(tree):
                if isinstance(node, ast.FunctionDef):
                    self.assertLessEqual(node.end_lineno - node.lineno + 1, 40, node.name)
                    self.assertFalse(node.decorator_list or node.returns)
                    arguments = node.args
                    self.assertFalse(arguments.vararg or arguments.kwarg or arguments.kwonlyargs or arguments.posonlyargs)
                    self.assertFalse(bound_in(node) & set(classes + drawn + dir(builtins)), node.name)
                    self.assertIsNone(ast.get_docstring(node))

    def test_defaults(self):
        for path, tree in self.each():
            for node in ast.walk(tree):
                if isinstance(node, (ast.FunctionDef, ast.Lambda)):
                    for default in node.args.defaults + node.args.kw_defaults:
                        self.assertTrue(is_plain_default(default), default.lineno)

    def test_what_counts_as_a_default(self):
        for source in ("0", "-1", "10", "''", "'a'", "True", "False", "None"):
            self.assertTrue(is_plain_default(ast.parse(source, mode="eval").body), source)
        for source in ("()", "(1,)", "[]", "[1]", "{}", "{1: 2}", "{1}", "1.5", "b''", "...", "a", "a.b", "f()", "1 + 1", "not a"):
            self.assertFalse(is_plain_default(ast.parse(source, mode="eval").body), source)

    def test_classes(self):
        methods, values = set(), set()
        for path, tree in self.each():
            for node in ast.walk(tree):
                if isinstance(node, ast.ClassDef):
                    self.assertIn(node, tree.body)
                    self.assertLessEqual(len(node.bases), 1)
                    self.assertFalse(node.decorator_list)
                    for one in node.body:
                        self.assertIsInstance(one, (ast.FunctionDef, ast.Pass))
                        if isinstance(one, ast.FunctionDef):
                            methods.add(one.name)
                if isinstance(node, ast.Attribute) and isinstance(node.ctx, ast.Store):
                    values.add(node.attr)
                    self.assertIsInstance(node.value, ast.Name)
        self.assertFalse(methods & values)
        self.assertFalse((methods | values) & OF_PYTHONS_VALUES - set(VALUES_TOO) - {"__init__"})

    def test_names(self):
        for path, tree in self.each():
            own = {node.name for node in ast.walk(tree) if isinstance(node, (ast.FunctionDef, ast.ClassDef))}
            for node in ast.walk(tree):
                if isinstance(node, ast.Name):
                    self.assertRegex(node.id, r"^[A-Za-z][A-Za-z0-9_]*$")
                    self.assertNotIn(node.id, UNUSED_NAMES)
                    if node.id in dir(builtins) and node.id not in own:
                        self.assertIn(node.id, BUILTINS)
                if isinstance(node, ast.Attribute):
                    self.assertNotIn(node.attr, UNUSED_NAMES)
                    self.assertFalse(node.attr.startswith("_"))

    def test_methods_of_pythons_own_values(self):
        own = set()
        for path, tree in self.each():
            own |= {one.name for node in tree.body if isinstance(node, ast.ClassDef)
                    for one in node.body if isinstance(one, ast.FunctionDef)}
        for path, tree in self.each():
            for node in ast.walk(tree):
                if isinstance(node, ast.Call) and isinstance(node.func, ast.Attribute):
                    self.assertIn(node.func.attr, METHODS + sorted(own))

    def test_what_is_walked_at_once_and_sets(self):
        for path, tree in self.each():
            around = {inner: node for node in ast.walk(tree) for inner in ast.iter_child_nodes(node)}
            for node in ast.walk(tree):
                if isinstance(node, ast.Call) and isinstance(node.func, ast.Name):
                    outer = around[node]
                    name = outer.func.id if isinstance(outer, ast.Call) and isinstance(outer.func, ast.Name) else ""
                    if node.func.id in ("enumerate", "zip", "reversed", "range"):
                        walked = isinstance(outer, (ast.For, ast.comprehension)) and outer.iter is node
                        self.assertTrue(walked or name in ("list", "tuple", "dict", "sorted", "sum", "any", "all"))
                    if node.func.id in ("set", "frozenset"):
                        self.assertTrue(isinstance(outer, ast.Compare) or name in ("sorted", "len"))

    def test_numbers_texts_and_errors(self):
        for path, tree in self.each():
            for node in ast.walk(tree):
                if isinstance(node, ast.Constant):
                    self.assertNotIsInstance(node.value, (float, bytes, complex))
                    self.assertNotIn("%", str(node.value))
                if isinstance(node, ast.ExceptHandler):
                    self.assertNotIn(node.type.id, ("Exception", "TypeError", "ValueError", "LookupError", "IndexError"))
                if isinstance(node, ast.Try):
                    self.assertFalse(node.finalbody)
                if isinstance(node, (ast.For, ast.While)):
                    self.assertFalse(node.orelse)
                if isinstance(node, ast.Assign):
                    self.assertEqual(len(node.targets), 1)
                if isinstance(node, ast.Expr) and node is not tree.body[0]:
                    self.assertIsInstance(node.value, ast.Call)
                if isinstance(node, ast.Compare) and any(isinstance(one, (ast.Is, ast.IsNot)) for one in node.ops):
                    self.assertIsInstance(node.comparators[0], ast.Constant)

    def test_nothing_is_kept_at_a_files_top(self):
        for path, tree in self.each():
            kept = {node.targets[0].id for node in tree.body
                    if isinstance(node, ast.Assign) and isinstance(node.value, (ast.List, ast.Dict))}
            around = {inner: node for node in ast.walk(tree) for inner in ast.iter_child_nodes(node)}
            for node in ast.walk(tree):
                if isinstance(node, ast.Name) and node.id in kept and isinstance(node.ctx, ast.Load):
                    outer = around[node]
                    if isinstance(outer, ast.Attribute):
                        self.assertIn(outer.attr, ("get", "items", "keys", "values"))
                    elif isinstance(outer, ast.Subscript):
                        self.assertIsInstance(outer.ctx, ast.Load)
                    else:
                        self.assertIsInstance(outer, (ast.Compare, ast.For, ast.comprehension))


def defined_in(path):
    names = []
    for node in tree_of(path).body:
        if isinstance(node, ast.Assign):
            names.append(node.targets[0].id)
        if isinstance(node, (ast.FunctionDef, ast.ClassDef)):
            names.append(node.name)
    return names


if __name__ == "__main__":
    unittest.main()
