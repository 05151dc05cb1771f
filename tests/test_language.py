"""The rules of the language that can be read off a file's form. The others are for the reader."""

import ast
import builtins
import pathlib
import re
import unittest

PACKAGE = pathlib.Path(__file__).resolve().parent.parent / "tariffgate"

OWN_NAMES = """len range enumerate zip min max sum abs sorted reversed int str bool list tuple dict set frozenset
isinstance ord repr any all divmod Exception ValueError TypeError KeyError IndexError LookupError ZeroDivisionError
ArithmeticError OverflowError RuntimeError NotImplementedError AttributeError StopIteration""".split()

OWN_METHODS = """append clear copy count endswith extend find get index insert isalnum isalpha isdigit islower isspace
isupper items join keys ljust lower lstrip partition pop remove replace reverse rfind rjust rpartition rsplit rstrip
setdefault split splitlines startswith strip update upper values zfill bit_length""".split()

# Names of Python's own values that a value, and those that a method of an object may bear.
VALUES_FREE = "count index title find get join lower upper split strip copy add".split()
METHODS_FREE = OWN_METHODS + ["add", "discard"]

TWO_UNDERSCORES = ["__init__", "__eq__", "__repr__", "__str__", "__len__"]

WORDS_OUT = """type typing typing_extensions enum Enum IntEnum StrEnum Flag IntFlag Generic Protocol ABC ABCMeta
namedtuple NamedTuple TypedDict TYPE_CHECKING abstractmethod""".split()
PARTS_OUT = ["dataclass", "overload", "contextmanager"]

NAMES_OUT = """register mro elements open input version_info with_traceback add_note attrgetter breakpoint builtins
compile copyright credits delattr dir eval exec exit gc getattr globals hasattr help id importlib license locals
methodcaller os quit setattr super type vars sys format format_map""".split()
WALKED = ["zip", "enumerate", "reversed", "range"]
WALKERS = ["list", "tuple", "dict", "sorted", "sum", "any", "all", "enumerate", "zip", "min", "max"]

STATEMENTS = (
    ast.FunctionDef, ast.ClassDef, ast.ImportFrom, ast.Assign, ast.AugAssign, ast.If, ast.While, ast.For, ast.Return,
    ast.Break, ast.Continue, ast.Pass, ast.Raise, ast.Try, ast.Expr,
)
EXPRESSIONS = (
    ast.Constant, ast.List, ast.Tuple, ast.Dict, ast.Set, ast.BinOp, ast.UnaryOp, ast.BoolOp, ast.Compare, ast.IfExp,
    ast.Call, ast.Attribute, ast.Subscript, ast.Slice, ast.ListComp, ast.JoinedStr, ast.FormattedValue, ast.Name,
    ast.Lambda,
)


def sources():
    return sorted(PACKAGE.glob("*.py"))


def words_of(tree):
    """Every name that a file binds or reads, with its row."""
    for node in ast.walk(tree):
        if isinstance(node, ast.Name):
            yield node.id, node.lineno
        elif isinstance(node, ast.Attribute):
            yield node.attr, node.lineno
        elif isinstance(node, ast.arg):
            yield node.arg, node.lineno
        elif isinstance(node, (ast.FunctionDef, ast.ClassDef)):
            yield node.name, node.lineno


def defined_in(tree):
    for node in tree.body:
        if isinstance(node, (ast.FunctionDef, ast.ClassDef)):
            yield node.name
        elif isinstance(node, ast.Assign):
            yield node.targets[0].id


def drawn_from(tree):
    return [node.module.split(".")[1] for node in tree.body if isinstance(node, ast.ImportFrom)]


def called(node):
    """The name of what is called, where it is a plain name."""
    return node.func.id if isinstance(node, ast.Call) and isinstance(node.func, ast.Name) else None


def walked_at_once(node, above):
    if isinstance(above, (ast.For, ast.comprehension)):
        return above.iter is node
    return called(above) in WALKERS and above.args[0] is node


def plain(node):
    if isinstance(node, (ast.List, ast.Tuple)):
        return all(plain(part) for part in node.elts)
    if isinstance(node, ast.Dict):
        return all(plain(part) for part in node.keys + node.values)
    return isinstance(node, (ast.Constant, ast.Name))


class Language(unittest.TestCase):
    def setUp(self):
        self.trees = {path.stem: ast.parse(path.read_text()) for path in sources()}

    def nodes(self, *kinds):
        for stem, tree in self.trees.items():
            for node in ast.walk(tree):
                if isinstance(node, kinds):
                    yield node, f"{stem} {node.lineno}"

    def test_files(self):
        self.assertIn("__init__", self.trees)
        for path in PACKAGE.iterdir():
            if path.name != "__pycache__":
                self.assertRegex(path.name, r"^[a-z0-9_]+\.py$")

    def test_signs_and_size(self):
        for path in sources():
            rows = path.read_bytes().decode("ascii").split("\n")
            self.assertLessEqual(len(rows), 401)
            for place, row in enumerate(rows):
                with self.subTest(path.name, row=place + 1):
                    self.assertRegex(row, r"\A[ -~]{0,120}\Z")

    def test_words_that_stand_nowhere(self):
        for path in sources():
            text = path.read_text()
            for word in re.findall(r"\w+", text):
                self.assertNotIn(word, WORDS_OUT, path.name)
            for part in PARTS_OUT:
                self.assertNotIn(part, text, path.name)

    def test_functions(self):
        for node, where in self.nodes(ast.FunctionDef):
            self.assertLessEqual(node.end_lineno - node.lineno + 1, 40, where)
            self.assertEqual(node.decorator_list, [], where)
            self.assertIsNone(node.args.vararg or node.args.kwarg, where)
            self.assertEqual(node.args.kwonlyargs + node.args.posonlyargs, [], where)

    def test_classes(self):
        for node, where in self.nodes(ast.ClassDef):
            self.assertEqual(node.decorator_list + node.keywords, [], where)
            self.assertLessEqual(len(node.bases), 1, where)
            for part in node.body:
                self.assertIsInstance(part, (ast.FunctionDef, ast.Pass), where)

    def test_the_top_of_a_file(self):
        for stem, tree in self.trees.items():
            self.assertIsNotNone(ast.get_docstring(tree), stem)
            for node in tree.body[1:]:
                with self.subTest(stem, row=node.lineno):
                    self.assertIsInstance(node, (ast.ImportFrom, ast.FunctionDef, ast.ClassDef, ast.Assign))
                    self.assertTrue(not isinstance(node, ast.Assign) or plain(node.value))
            names = list(defined_in(tree))
            self.assertEqual(len(names), len(set(names)), stem)

    def test_imports(self):
        for node, where in self.nodes(ast.ImportFrom):
            self.assertEqual(node.level, 0, where)
            package, stem = node.module.split(".")
            self.assertEqual(package, "tariffgate", where)
            for part in node.names:
                self.assertIsNone(part.asname, where)
                self.assertIn(part.name, list(defined_in(self.trees[stem])), where)

    def test_no_two_files_draw_from_one_another(self):
        left = {stem: drawn_from(tree) for stem, tree in self.trees.items()}
        self.assertEqual(left["__init__"], [])
        while left:
            free = [stem for stem, drawn in left.items() if not set(drawn) & set(left)]
            self.assertTrue(free, left)
            for stem in free:
                del left[stem]

    def test_statements(self):
        for node, where in self.nodes(ast.stmt):
            self.assertIsInstance(node, STATEMENTS, where)
            if isinstance(node, (ast.For, ast.While)):
                self.assertEqual(node.orelse, [], where)
            if isinstance(node, ast.Assign):
                self.assertEqual(len(node.targets), 1, where)
            if isinstance(node, ast.Try):
                self.assertEqual(node.finalbody, [], where)

    def test_lone_expressions_are_calls_or_the_docstring(self):
        for tree in self.trees.values():
            for node in ast.walk(tree):
                if isinstance(node, ast.Expr) and node is not tree.body[0]:
                    self.assertIsInstance(node.value, ast.Call)

    def test_expressions(self):
        for node, where in self.nodes(ast.expr):
            self.assertIsInstance(node, EXPRESSIONS, where)
            if isinstance(node, ast.Constant):
                self.assertTrue(node.value is None or isinstance(node.value, (int, str)), where)
                self.assertNotIn("%", str(node.value), where)
            if isinstance(node, ast.BinOp):
                self.assertNotIsInstance(node.op, (ast.Div, ast.MatMult), where)
            if isinstance(node, ast.ListComp):
                self.assertEqual(len(node.generators), 1, where)
                self.assertLessEqual(len(node.generators[0].ifs), 1, where)

    def test_powers_have_written_exponents(self):
        for node, where in self.nodes(ast.BinOp):
            if isinstance(node.op, ast.Pow):
                self.assertIsInstance(node.right, ast.Constant, where)
                self.assertTrue(0 <= node.right.value <= 64, where)

    def test_is_stands_beside_written_values(self):
        for node, where in self.nodes(ast.Compare):
            if isinstance(node.ops[0], (ast.Is, ast.IsNot)):
                self.assertIsInstance(node.comparators[0], ast.Constant, where)
                self.assertIn(node.comparators[0].value, (None, True, False), where)

    def test_names(self):
        for stem, tree in self.trees.items():
            for word, row in words_of(tree):
                with self.subTest(stem, row=row):
                    self.assertTrue(re.fullmatch(r"[A-Za-z][A-Za-z0-9_]*", word) or word in TWO_UNDERSCORES, word)

    def test_pythons_own_names(self):
        for node, where in self.nodes(ast.Name, ast.arg):
            if isinstance(node, ast.arg):
                self.assertFalse(hasattr(builtins, node.arg), where)
            elif isinstance(node.ctx, ast.Store):
                self.assertFalse(hasattr(builtins, node.id), where)
            elif hasattr(builtins, node.id):
                self.assertIn(node.id, OWN_NAMES, where)

    def test_pythons_own_methods(self):
        methods = set(OWN_METHODS) | set(TWO_UNDERSCORES)
        for tree in self.trees.values():
            for node in ast.walk(tree):
                if isinstance(node, ast.ClassDef):
                    methods |= {part.name for part in node.body if isinstance(part, ast.FunctionDef)}
        for node, where in self.nodes(ast.Call):
            if isinstance(node.func, ast.Attribute):
                self.assertIn(node.func.attr, methods, where)

    def with_what_stands_above(self):
        for stem, tree in self.trees.items():
            for above in ast.walk(tree):
                for node in ast.iter_child_nodes(above):
                    if isinstance(node, ast.expr):
                        yield node, above, f"{stem} {node.lineno}"

    def test_what_is_walked_is_not_kept(self):
        for node, above, where in self.with_what_stands_above():
            if called(node) in WALKED:
                self.assertTrue(walked_at_once(node, above), where)

    def test_sets_are_not_kept(self):
        for node, above, where in self.with_what_stands_above():
            if called(node) in ("set", "frozenset") or isinstance(node, ast.Set):
                self.assertTrue(isinstance(above, ast.Compare) or called(above) in ("len", "sorted"), where)

    def test_names_that_are_not_used(self):
        for stem, tree in self.trees.items():
            for word, row in words_of(tree):
                with self.subTest(stem, row=row):
                    self.assertNotIn(word, NAMES_OUT)

    def test_no_parameter_or_local_is_called_like_a_class_or_an_import(self):
        for stem, tree in self.trees.items():
            taken = [node.name for node in tree.body if isinstance(node, ast.ClassDef)]
            for node in tree.body:
                if isinstance(node, ast.ImportFrom):
                    taken += [part.name for part in node.names]
            for node in ast.walk(tree):
                if isinstance(node, ast.arg):
                    self.assertNotIn(node.arg, taken, f"{stem} {node.lineno}")
                elif isinstance(node, ast.Name) and isinstance(node.ctx, ast.Store):
                    self.assertNotIn(node.id, taken, f"{stem} {node.lineno}")

    def test_no_name_is_a_method_and_a_value(self):
        methods = set()
        for node, where in self.nodes(ast.ClassDef):
            names = [part.name for part in node.body if isinstance(part, ast.FunctionDef)]
            self.assertEqual(len(names), len(set(names)), where)
            methods |= set(names)
        for node, where in self.nodes(ast.Attribute):
            if isinstance(node.ctx, ast.Store):
                self.assertNotIn(node.attr, methods, where)

    def test_values_and_methods_are_not_called_like_pythons_own(self):
        taken = {name for kind in (str, int, list, tuple, dict, set, bytes) for name in dir(kind)}
        for node, where in self.nodes(ast.Attribute):
            if isinstance(node.ctx, ast.Store):
                self.assertNotIn(node.attr, taken - set(VALUES_FREE) | {"args", "encode", "format"}, where)
        for node, where in self.nodes(ast.ClassDef):
            for part in node.body:
                if isinstance(part, ast.FunctionDef):
                    self.assertNotIn(part.name, taken - set(METHODS_FREE) - set(TWO_UNDERSCORES), where)

    def test_classes_are_not_handed_on(self):
        classes = {node.name for node, where in self.nodes(ast.ClassDef)}
        for node, above, where in self.with_what_stands_above():
            if isinstance(node, ast.Name) and node.id in classes:
                base = isinstance(above, (ast.ClassDef, ast.ExceptHandler))
                method = isinstance(above, ast.Attribute) and above.attr == "__init__"
                asked = isinstance(above, ast.Call) and (above.func is node or called(above) == "isinstance")
                self.assertTrue(base or method or asked, where)


if __name__ == "__main__":
    unittest.main()
