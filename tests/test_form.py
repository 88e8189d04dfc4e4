"""Holds the package's files to the part of Python that they keep to, as far as that is seen at a glance."""

import ast
import builtins
import pathlib
import re
import unittest

PACKAGE = pathlib.Path(__file__).resolve().parent.parent / "fakehunt"
FILES = sorted(PACKAGE.glob("*.py"))

OUT_OF_PLACE = (
    "type typing typing_extensions enum Enum IntEnum StrEnum Flag IntFlag Generic Protocol ABC ABCMeta "
    "namedtuple NamedTuple TypedDict TYPE_CHECKING abstractmethod"
).split()

PYTHONS_OWN = (
    "len range enumerate zip min max sum abs sorted reversed int str bool list tuple dict set frozenset isinstance "
    "ord repr any all divmod Exception ValueError TypeError KeyError IndexError LookupError ZeroDivisionError "
    "ArithmeticError OverflowError RuntimeError NotImplementedError AttributeError StopIteration"
).split()

METHODS = "__init__ __eq__ __repr__ __str__ __len__".split()

VALUE_METHODS = (
    "append clear copy count endswith extend find get index insert isalnum isalpha isdigit islower isspace isupper "
    "items join keys ljust lower lstrip partition pop remove replace reverse rfind rjust rpartition rsplit rstrip "
    "setdefault split splitlines startswith strip update upper values zfill bit_length"
).split()

NOWHERE = "register mro elements open input version_info with_traceback add_note format format_map args".split()

WALKED_AT_ONCE = "zip enumerate reversed range".split()
WALKERS = "list tuple dict sorted sum any all enumerate zip min max join".split()

KEYWORDS = {
    "sorted": ("key", "reverse"), "min": ("key", "default"), "max": ("key", "default"), "sum": ("start",),
    "enumerate": ("start",), "zip": ("strict",),
}

NODES = (
    ast.Module, ast.ImportFrom, ast.alias, ast.FunctionDef, ast.ClassDef, ast.arguments, ast.arg, ast.Lambda,
    ast.Assign, ast.AugAssign, ast.If, ast.While, ast.For, ast.Return, ast.Break, ast.Continue, ast.Pass, ast.Raise,
    ast.Try, ast.ExceptHandler, ast.Expr, ast.Constant, ast.Name, ast.List, ast.Tuple, ast.Dict, ast.BinOp,
    ast.UnaryOp, ast.BoolOp, ast.Compare, ast.IfExp, ast.Call, ast.keyword, ast.Attribute, ast.Subscript, ast.Slice,
    ast.ListComp, ast.comprehension, ast.JoinedStr, ast.FormattedValue,
    ast.expr_context, ast.boolop, ast.operator, ast.unaryop, ast.cmpop,
)


def text_of(path):
    return path.read_text(encoding="utf-8")


def nodes_of(path):
    return list(ast.walk(ast.parse(text_of(path))))


def bound_name(node):
    if isinstance(node, (ast.FunctionDef, ast.ClassDef, ast.ExceptHandler)):
        return node.name
    if isinstance(node, ast.arg):
        return node.arg
    if isinstance(node, ast.alias):
        return node.asname or node.name
    if isinstance(node, ast.Name) and isinstance(node.ctx, ast.Store):
        return node.id
    return None


def bound_names(nodes):
    return [bound_name(node) for node in nodes if bound_name(node) is not None]


def is_plain(node):
    """A value that a name at the top of a file may have."""
    if isinstance(node, ast.UnaryOp):
        node = node.operand
    if isinstance(node, ast.Tuple):
        return all(is_plain(part) for part in node.elts)
    if isinstance(node, ast.List):
        return all(is_plain(part) and not isinstance(part, (ast.List, ast.Dict)) for part in node.elts)
    if isinstance(node, ast.Dict):
        parts = node.keys + node.values
        return all(is_plain(part) and not isinstance(part, (ast.List, ast.Dict)) for part in parts)
    return isinstance(node, (ast.Constant, ast.Name))


def called(node):
    if isinstance(node.func, ast.Attribute):
        return node.func.attr
    return getattr(node.func, "id", "")


def drawn_from(path):
    modules = [node.module for node in nodes_of(path) if isinstance(node, ast.ImportFrom)]
    return [PACKAGE / (module.split(".")[1] + ".py") for module in modules]


def all_classes():
    return [node for path in FILES for node in nodes_of(path) if isinstance(node, ast.ClassDef)]


def own_methods():
    return [part.name for one in all_classes() for part in one.body if isinstance(part, ast.FunctionDef)]


def defined_in(path):
    names = []
    for node in ast.parse(text_of(path)).body:
        names.extend(bound_names([node] + getattr(node, "targets", [])))
    return names


class FormTest(unittest.TestCase):
    def for_each_file(self, check):
        self.assertTrue(FILES)
        for path in FILES:
            with self.subTest(path=path.name):
                check(path)

    def test_only_plain_files(self):
        for path in PACKAGE.iterdir():
            if path.name != "__pycache__":
                self.assertRegex(path.name, r"\A(__init__|[a-z][a-z0-9_]*)\.py\Z")

    def test_signs_and_size(self):
        def check(path):
            lines = text_of(path).split("\n")
            self.assertLessEqual(len(lines), 400)
            for line in lines:
                self.assertRegex(line, r"\A[ -~]{0,120}\Z")
            for node in nodes_of(path):
                if isinstance(node, ast.FunctionDef):
                    self.assertLessEqual(node.end_lineno - node.lineno + 1, 40, node.name)
        self.for_each_file(check)

    def test_words_out_of_place(self):
        def check(path):
            words = re.findall(r"\w+", text_of(path))
            self.assertEqual([word for word in words if word in OUT_OF_PLACE], [])
            self.assertNotRegex(text_of(path), "dataclass|overload|contextmanager")
        self.for_each_file(check)

    def test_parts_of_the_language(self):
        def check(path):
            for node in nodes_of(path):
                self.check_node(node)
        self.for_each_file(check)

    def check_node(self, node):
        self.assertIsInstance(node, NODES)
        self.assertNotIsInstance(node, (ast.Div, ast.MatMult))
        if isinstance(node, ast.Assign):
            self.assertEqual(len(node.targets), 1)
        if isinstance(node, (ast.For, ast.While)):
            self.assertEqual(node.orelse, [])
        if isinstance(node, (ast.FunctionDef, ast.ClassDef)):
            self.assertEqual(node.decorator_list, [])
        if isinstance(node, ast.Constant):
            self.assertNotIsInstance(node.value, (float, complex, bytes))
        if isinstance(node, ast.BinOp) and isinstance(node.op, ast.Pow):
            self.assertIsInstance(node.right, ast.Constant)

    def test_imports(self):
        def check(path):
            for node in nodes_of(path):
                if isinstance(node, ast.ImportFrom):
                    self.assertEqual(node.level, 0)
                    self.assertRegex(node.module, r"\Afakehunt\.\w+\Z")
                    there = defined_in(PACKAGE / (node.module.split(".")[1] + ".py"))
                    for part in node.names:
                        self.assertIn(part.name, there)
        self.for_each_file(check)

    def test_names(self):
        def check(path):
            nodes = nodes_of(path)
            bound = [name for name in bound_names(nodes) if name not in METHODS]
            for name in bound:
                self.assertFalse(hasattr(builtins, name), name)
                self.assertRegex(name, r"\A[A-Za-z][A-Za-z0-9_]*\Z")
            for node in nodes:
                if isinstance(node, ast.Name) and node.id not in bound:
                    self.assertIn(node.id, PYTHONS_OWN)
        self.for_each_file(check)

    def test_the_top_of_a_file(self):
        def check(path):
            body = ast.parse(text_of(path)).body
            self.assertIsInstance(body[0].value, ast.Constant)
            for node in body[1:]:
                self.assertIsInstance(node, (ast.ImportFrom, ast.FunctionDef, ast.ClassDef, ast.Assign))
                if isinstance(node, ast.Assign):
                    self.assertIsInstance(node.targets[0], ast.Name)
                    self.assertTrue(is_plain(node.value), node.lineno)
            tops = bound_names([part for node in body for part in [node] + getattr(node, "targets", [])])
            self.assertEqual(len(tops), len(set(tops)))
        self.for_each_file(check)

    def test_functions(self):
        def check(path):
            for node in nodes_of(path):
                if isinstance(node, ast.arguments):
                    self.assertEqual((node.vararg, node.kwarg, node.kwonlyargs, node.posonlyargs), (None, None, [], []))
                if isinstance(node, ast.FunctionDef):
                    self.assertEqual(node.args.defaults, [each for each in node.args.defaults if is_plain(each)])
                    self.assertIsNone(node.returns)
                if isinstance(node, ast.arg):
                    self.assertIsNone(node.annotation)
        self.for_each_file(check)

    def test_classes(self):
        for one in all_classes():
            with self.subTest(one=one.name):
                self.assertLessEqual(len(one.bases), 1)
                self.assertEqual(one.keywords, [])
                for part in one.body:
                    self.assertIsInstance(part, (ast.FunctionDef, ast.Pass))
                names = [part.name for part in one.body if isinstance(part, ast.FunctionDef)]
                self.assertEqual(len(names), len(set(names)))
                for name in names:
                    self.assertTrue(name in METHODS or not name.startswith("_"), name)

    def test_classes_are_called_or_stand_under_one_another(self):
        names = [one.name for one in all_classes()]

        def check(path):
            nodes = nodes_of(path)
            fine = []
            for node in nodes:
                if isinstance(node, ast.Call):
                    fine.append(node.func)
                    if called(node) == "isinstance":
                        fine.append(node.args[1])
                if isinstance(node, ast.ClassDef):
                    fine.extend(node.bases)
                if isinstance(node, ast.ExceptHandler):
                    fine.append(node.type)
            for node in nodes:
                if isinstance(node, ast.Name) and node.id in names:
                    self.assertIn(node, fine, node.lineno)
        self.for_each_file(check)

    def test_no_name_is_a_method_here_and_a_value_there(self):
        values = set()
        for path in FILES:
            for node in nodes_of(path):
                if isinstance(node, ast.Attribute) and isinstance(node.ctx, ast.Store):
                    self.assertIsInstance(node.value, ast.Name)
                    values.add(node.attr)
        self.assertEqual(sorted(values & set(own_methods())), [])
        for kind in (str, int, list, dict, set, bytes):
            self.assertEqual([name for name in sorted(values) if hasattr(kind, name)], [])

    def test_methods_that_are_called(self):
        def check(path):
            for node in nodes_of(path):
                if isinstance(node, ast.Attribute):
                    self.assertNotIn(node.attr, NOWHERE)
                if isinstance(node, ast.Call) and isinstance(node.func, ast.Attribute):
                    self.assertIn(node.func.attr, VALUE_METHODS + own_methods())
        self.for_each_file(check)

    def test_keywords(self):
        def check(path):
            for node in nodes_of(path):
                if isinstance(node, ast.Call):
                    for keyword in node.keywords:
                        self.assertIn(keyword.arg, KEYWORDS.get(called(node), ()), node.lineno)
        self.for_each_file(check)

    def test_no_local_is_called_like_a_class_or_an_import(self):
        def check(path):
            nodes = nodes_of(path)
            kept = bound_names([node for node in nodes if isinstance(node, (ast.ClassDef, ast.alias))])
            held = [node for node in nodes if not isinstance(node, (ast.ClassDef, ast.alias))]
            self.assertEqual([name for name in bound_names(held) if name in kept], [])
        self.for_each_file(check)

    def test_no_files_draw_from_one_another(self):
        for path in FILES:
            reached = []
            ahead = drawn_from(path)
            while ahead:
                one = ahead.pop()
                if one not in reached:
                    reached.append(one)
                    ahead.extend(drawn_from(one))
            self.assertNotIn(path, reached)

    def test_walked_at_once(self):
        def check(path):
            nodes = nodes_of(path)
            fine = []
            for node in nodes:
                if isinstance(node, (ast.For, ast.comprehension)):
                    fine.append(node.iter)
                if isinstance(node, ast.Call) and called(node) in WALKERS:
                    fine.extend(node.args[:1])
            for node in nodes:
                if isinstance(node, ast.Call) and called(node) in WALKED_AT_ONCE + ["items", "keys", "values"]:
                    self.assertIn(node, fine, node.lineno)
        self.for_each_file(check)

    def test_expressions(self):
        def check(path):
            for node in nodes_of(path):
                if isinstance(node, ast.ListComp):
                    self.assertEqual(len(node.generators), 1)
                    self.assertLessEqual(len(node.generators[0].ifs), 1)
                if isinstance(node, ast.FormattedValue):
                    self.assertIsInstance(node.value, ast.Name)
                    self.assertIsNone(node.format_spec)
                if isinstance(node, ast.Compare) and any(isinstance(op, (ast.Is, ast.IsNot)) for op in node.ops):
                    self.assertIsInstance(node.comparators[0], ast.Constant)
                if isinstance(node, ast.Constant) and isinstance(node.value, str):
                    self.assertNotIn("%", node.value)
                if isinstance(node, ast.Assign):
                    self.assertIsInstance(node.targets[0], (ast.Name, ast.Attribute, ast.Subscript))
        self.for_each_file(check)


if __name__ == "__main__":
    unittest.main()
