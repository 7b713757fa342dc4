"""The part of Python that the package keeps to, as far as single lines and nodes show it."""

import ast
import builtins
import pathlib
import re
import unittest

PACKAGE = pathlib.Path(__file__).resolve().parent.parent / "kindturn"

STATEMENTS = (
    ast.Assign, ast.AugAssign, ast.If, ast.While, ast.For, ast.Return, ast.Break, ast.Continue, ast.Pass, ast.Raise,
    ast.Try, ast.FunctionDef, ast.ClassDef, ast.ImportFrom, ast.Expr,
)
EXPRESSIONS = (
    ast.Constant, ast.List, ast.Tuple, ast.Dict, ast.Set, ast.BinOp, ast.UnaryOp, ast.BoolOp, ast.Compare, ast.IfExp,
    ast.Call, ast.Attribute, ast.Subscript, ast.Slice, ast.ListComp, ast.JoinedStr, ast.FormattedValue, ast.Name,
    ast.Lambda,
)
OWN_NAMES = """len range enumerate zip min max sum abs sorted reversed int str bool list tuple dict set frozenset
isinstance ord repr any all divmod Exception ValueError TypeError KeyError IndexError LookupError ZeroDivisionError
ArithmeticError OverflowError RuntimeError NotImplementedError AttributeError StopIteration""".split()
METHODS = """append clear copy count endswith extend find get index insert isalnum isalpha isdigit islower isspace
isupper items join keys ljust lower lstrip partition pop remove replace reverse rfind rjust rpartition rsplit rstrip
setdefault split splitlines startswith strip update upper values zfill bit_length""".split()
WORDS = """type typing typing_extensions enum Enum IntEnum StrEnum Flag IntFlag Generic Protocol ABC ABCMeta namedtuple
NamedTuple TypedDict TYPE_CHECKING abstractmethod""".split()
WITHIN_WORDS = ["dataclass", "overload", "contextmanager"]


def sources():
    return {path: path.read_text(encoding="utf-8") for path in sorted(PACKAGE.glob("*.py"))}


def each_node(*sorts):
    return [
        node
        for path, text in sources().items()
        for node in ast.walk(ast.parse(text, filename=str(path)))
        if isinstance(node, sorts)
    ]


class Form(unittest.TestCase):
    def test_the_folder_holds_plain_files_alone(self):
        names = [path.name for path in PACKAGE.iterdir() if path.name != "__pycache__"]
        self.assertIn("__init__.py", names)
        for name in names:
            self.assertRegex(name, r"\A([a-z][a-z0-9_]*|__init__)\.py\Z")

    def test_sizes_and_signs(self):
        for path, text in sources().items():
            self.assertRegex(text, r"\A[ -~\n]*\Z", path.name)
            self.assertLessEqual(len(text.splitlines()), 400, path.name)
            self.assertLessEqual(max(len(line) for line in text.splitlines()), 120, path.name)
        for node in each_node(ast.FunctionDef):
            self.assertLessEqual(node.end_lineno - node.lineno + 1, 40)

    def test_words_that_stand_nowhere(self):
        for path, text in sources().items():
            for word in WORDS:
                self.assertIsNone(re.search(rf"\b{word}\b", text), (path.name, word))
            for word in WITHIN_WORDS:
                self.assertNotIn(word, text, path.name)

    def test_imports_are_of_the_package_and_at_the_top(self):
        for path, text in sources().items():
            tree = ast.parse(text)
            rows = [node for node in ast.walk(tree) if isinstance(node, (ast.Import, ast.ImportFrom))]
            for row in rows:
                self.assertIsInstance(row, ast.ImportFrom)
                self.assertIn(row, tree.body)
                self.assertEqual(row.level, 0)
                self.assertRegex(row.module, r"\Akindturn\.[a-z_]+\Z")
                self.assertNotIn("*", [name.name for name in row.names])

    def test_statements_and_expressions(self):
        for node in each_node(ast.stmt):
            self.assertIsInstance(node, STATEMENTS)
        for node in each_node(ast.expr):
            self.assertIsInstance(node, EXPRESSIONS)
        for node in each_node(ast.FunctionDef, ast.ClassDef):
            self.assertEqual(node.decorator_list, [])
        for node in each_node(ast.For, ast.While):
            self.assertEqual(node.orelse, [])
        for node in each_node(ast.Try):
            self.assertEqual(node.finalbody, [])
        for node in each_node(ast.Div):
            self.fail("no /")

    def test_values(self):
        for node in each_node(ast.Constant):
            self.assertIn(type(node.value), (int, str, bool, type(None)))
            self.assertFalse(isinstance(node.value, str) and "%" in node.value)

    def test_is_stands_beside_none_true_and_false(self):
        for node in each_node(ast.Compare):
            for operator, value in zip(node.ops, node.comparators):
                if isinstance(operator, (ast.Is, ast.IsNot)):
                    self.assertIsInstance(value, ast.Constant)
                    self.assertIn(type(value.value), (bool, type(None)))

    def test_names(self):
        for node in each_node(ast.Name):
            self.assertRegex(node.id, r"\A[A-Za-z][A-Za-z0-9_]*\Z")
            if hasattr(builtins, node.id):
                self.assertIn(node.id, OWN_NAMES)
                self.assertIsInstance(node.ctx, ast.Load)
        for node in each_node(ast.arg):
            self.assertRegex(node.arg, r"\A[A-Za-z][A-Za-z0-9_]*\Z")
            self.assertFalse(hasattr(builtins, node.arg), node.arg)
            self.assertIsNone(node.annotation)
        for node in each_node(ast.arguments):
            self.assertEqual((node.vararg, node.kwarg, node.kwonlyargs, node.posonlyargs), (None, None, [], []))

    def test_assignments_have_one_plain_target(self):
        for node in each_node(ast.Assign):
            self.assertEqual(len(node.targets), 1)
            self.assertNotIsInstance(node.targets[0], (ast.Tuple, ast.List))

    def test_comprehensions_have_one_walk(self):
        for node in each_node(ast.ListComp):
            self.assertEqual(len(node.generators), 1)
            self.assertLessEqual(len(node.generators[0].ifs), 1)

    def test_exponents_are_written(self):
        for node in each_node(ast.BinOp):
            if isinstance(node.op, ast.Pow):
                self.assertIsInstance(node.right, ast.Constant)

    def test_what_is_walked_on_the_spot(self):
        walks = {"zip", "enumerate", "reversed", "range"}
        around = ["list", "tuple", "dict", "sorted", "sum", "any", "all", "enumerate", "zip", "min", "max"]
        allowed = [node.iter for node in each_node(ast.For, ast.comprehension)]
        for node in each_node(ast.Call):
            if isinstance(node.func, ast.Name) and node.func.id in around:
                allowed += node.args[:1]
        places = {(ast.dump(node, include_attributes=True)) for node in allowed}
        for node in each_node(ast.Call):
            if isinstance(node.func, ast.Name) and node.func.id in walks:
                self.assertIn(ast.dump(node, include_attributes=True), places)

    def test_no_local_is_called_like_an_import_or_a_class(self):
        for path, text in sources().items():
            tree = ast.parse(text)
            taken = {name.asname or name.name for row in tree.body if isinstance(row, ast.ImportFrom) for name in row.names}
            taken |= {row.name for row in tree.body if isinstance(row, ast.ClassDef)}
            for node in ast.walk(tree):
                if isinstance(node, ast.arg):
                    self.assertNotIn(node.arg, taken, path.name)
                if isinstance(node, ast.Name) and isinstance(node.ctx, ast.Store):
                    self.assertNotIn(node.id, taken, path.name)

    def test_each_name_is_bound_once_at_the_top(self):
        for path, text in sources().items():
            bound = []
            for row in ast.parse(text).body:
                if isinstance(row, ast.ImportFrom):
                    bound += [name.asname or name.name for name in row.names]
                elif isinstance(row, ast.Assign):
                    bound += [target.id for target in row.targets]
                elif isinstance(row, (ast.FunctionDef, ast.ClassDef)):
                    bound.append(row.name)
                else:
                    self.assertIsInstance(row, ast.Expr)
            self.assertEqual(len(bound), len(set(bound)), path.name)

    def test_methods(self):
        own = [node.name for node in each_node(ast.FunctionDef)]
        for node in each_node(ast.Call):
            if isinstance(node.func, ast.Attribute):
                self.assertIn(node.func.attr, METHODS + own)


if __name__ == "__main__":
    unittest.main()
