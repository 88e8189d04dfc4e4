"""Holds the package's files to the part of Python that they keep to, as far as that is seen at a glance."""

import ast
import builtins
import pathlib
import re
import unittest

PACKAGE = pathlib.Path(__file__).resolve().parent.parent / "fakehunt"
FILES = sorted(PACKAGE.glob("*.py"))

OUT_OF_PLACE = (
    "type typing typing_extensions enum Enum IntEnum StrEnum Flag IntFlag Generic Protocol ABC ABCMeta "
    "namedtuple NamedTuple TypedDict TYPE_CHECKING abstractmethod"
).split()

PYTHONS_OWN = (
    "len range enumerate zip min max sum abs sorted reversed int str bool list tuple dict set frozenset isinstance "
    "ord repr any all divmod Exception ValueError TypeError KeyError IndexError LookupError ZeroDivisionError "
    "ArithmeticError OverflowError RuntimeError NotImplementedError AttributeError StopIteration"
).split()

METHODS = "__init__ __eq__ __repr__ __str__ __len__".split()

NODES = (
    ast.Module, ast.ImportFrom, ast.alias, ast.FunctionDef, ast.ClassDef, ast.arguments, ast.arg, ast.Lambda,
    ast.Assign, ast.AugAssign, ast.If, ast.While, ast.For, ast.Return, ast.Break, ast.Continue, ast.Pass, ast.Raise,
    ast.Try, ast.ExceptHandler, ast.Expr, ast.Constant, ast.Name, ast.List, ast.Tuple, ast.Dict, ast.BinOp,
    ast.UnaryOp, ast.BoolOp, ast.Compare, ast.IfExp, ast.Call, ast.keyword, ast.Attribute, ast.Subscript, ast.Slice,
    ast.ListComp, ast.comprehension, ast.JoinedStr, ast.FormattedValue,
    ast.expr_context, ast.boolop, ast.operator, ast.unaryop, ast.cmpop,
)


def text_of(path):
    return path.read_text(encoding="utf-8")


def nodes_of(path):
    return list(ast.walk(ast.parse(text_of(path))))


def bound_name(node):
    if isinstance(node, (ast.FunctionDef, ast.ClassDef, ast.ExceptHandler)):
        return node.name
    if isinstance(node, ast.arg):
        return node.arg
    if isinstance(node, ast.alias):
        return node.asname or node.name
    if isinstance(node, ast.Name) and isinstance(node.ctx, ast.Store):
        return node.id
    return None


def bound_names(nodes):
    return [bound_name(node) for node in nodes if bound_name(node) is not None]


def defined_in(path):
    names = []
    for node in ast.parse(text_of(path)).body:
        names.extend(bound_names([node] + getattr(node, "targets", [])))
    return names


class FormTest(unittest.TestCase):
    def for_each_file(self, check):
        self.assertTrue(FILES)
        for path in FILES:
            with self.subTest(path=path.name):
                check(path)

    def test_only_plain_files(self):
        for path in PACKAGE.iterdir():
            if path.name != "__pycache__":
                self.assertRegex(path.name, r"\A(__init__|[a-z][a-z0-9_]*)\.py\Z")

    def test_signs_and_size(self):
        def check(path):
            lines = text_of(path).split("\n")
            self.assertLessEqual(len(lines), 400)
            for line in lines:
                self.assertRegex(line, r"\A[ -~]{0,120}\Z")
            for node in nodes_of(path):
                if isinstance(node, ast.FunctionDef):
                    self.assertLessEqual(node.end_lineno - node.lineno + 1, 40, node.name)
        self.for_each_file(check)

    def test_words_out_of_place(self):
        def check(path):
            words = re.findall(r"\w+", text_of(path))
            self.assertEqual([word for word in words if word in OUT_OF_PLACE], [])
            self.assertNotRegex(text_of(path), "dataclass|overload|contextmanager")
        self.for_each_file(check)

    def test_parts_of_the_language(self):
        def check(path):
            for node in nodes_of(path):
                self.check_node(node)
        self.for_each_file(check)

    def check_node(self, node):
        self.assertIsInstance(node, NODES)
        self.assertNotIsInstance(node, (ast.Div, ast.MatMult))
        if isinstance(node, ast.Assign):
            self.assertEqual(len(node.targets), 1)
        if isinstance(node, (ast.For, ast.While)):
            self.assertEqual(node.orelse, [])
        if isinstance(node, (ast.FunctionDef, ast.ClassDef)):
            self.assertEqual(node.decorator_list, [])
        if isinstance(node, ast.Constant):
            self.assertNotIsInstance(node.value, (float, complex, bytes))
        if isinstance(node, ast.BinOp) and isinstance(node.op, ast.Pow):
            self.assertIsInstance(node.right, ast.Constant)

    def test_imports(self):
        def check(path):
            for node in nodes_of(path):
                if isinstance(node, ast.ImportFrom):
                    self.assertEqual(node.level, 0)
                    self.assertRegex(node.module, r"\Afakehunt\.\w+\Z")
                    there = defined_in(PACKAGE / (node.module.split(".")[1] + ".py"))
                    for part in node.names:
                        self.assertIn(part.name, there)
        self.for_each_file(check)

    def test_names(self):
        def check(path):
            nodes = nodes_of(path)
            bound = [name for name in bound_names(nodes) if name not in METHODS]
            for name in bound:
                self.assertFalse(hasattr(builtins, name), name)
                self.assertRegex(name, r"\A[A-Za-z][A-Za-z0-9_]*\Z")
            for node in nodes:
                if isinstance(node, ast.Name) and node.id not in bound:
                    self.assertIn(node.id, PYTHONS_OWN)
        self.for_each_file(check)


if __name__ == "__main__":
    unittest.main()
