"""The form of the package's files, as far as it can be seen file by file."""

import ast
import builtins
import pathlib
import re
import unittest

FOLDER = pathlib.Path(__file__).resolve().parent.parent / "splithouse"

OWN_NAMES = set("""
    len range enumerate zip min max sum abs sorted reversed int str bool list tuple dict set frozenset isinstance
    ord repr any all divmod Exception ValueError TypeError KeyError IndexError LookupError ZeroDivisionError
    ArithmeticError OverflowError RuntimeError NotImplementedError AttributeError StopIteration
""".split())

METHODS = set("""
    append clear copy count endswith extend find get index insert isalnum isalpha isdigit islower isspace isupper
    items join keys ljust lower lstrip partition pop remove replace reverse rfind rjust rpartition rsplit rstrip
    setdefault split splitlines startswith strip update upper values zfill bit_length
""".split())

OUT_WORDS = re.compile(
    r"\b(type|typing|typing_extensions|enum|Enum|IntEnum|StrEnum|Flag|IntFlag|Generic|Protocol|ABC|ABCMeta"
    r"|namedtuple|NamedTuple|TypedDict|TYPE_CHECKING|abstractmethod)\b|dataclass|overload|contextmanager")

OUT_NODES = (
    ast.Import, ast.With, ast.Match, ast.Delete, ast.Global, ast.Nonlocal, ast.Assert, ast.Yield, ast.YieldFrom,
    ast.AsyncFunctionDef, ast.AsyncFor, ast.AsyncWith, ast.Await, ast.SetComp, ast.DictComp, ast.GeneratorExp,
    ast.NamedExpr, ast.Starred, ast.AnnAssign, ast.Div, ast.MatMult)

WALKED_FUNCTIONS = ("zip", "enumerate", "reversed", "range")

WALKED_METHODS = ("items", "keys", "values")

WALKERS = ("list", "tuple", "dict", "sorted", "sum", "any", "all", "enumerate", "zip", "min", "max")

TWO_UNDERSCORES = ("__init__", "__eq__", "__repr__", "__str__", "__len__")


def is_document(node):
    """Whether the statement is a text by itself, as a docstring is."""
    return isinstance(node.value, ast.Constant) and isinstance(node.value.value, str)


def called(node):
    """The name of the function or method that the call calls."""
    return getattr(node.func, "id", getattr(node.func, "attr", None))


class Language(unittest.TestCase):
    def setUp(self):
        self.files = sorted(path for path in FOLDER.iterdir() if path.name != "__pycache__")
        self.trees = {path.name: ast.parse(path.read_text(encoding="ascii")) for path in self.files}

    def nodes(self, *kinds):
        """Each node of these kinds, with the place where it stands."""
        for name, tree in self.trees.items():
            for node in ast.walk(tree):
                if isinstance(node, kinds):
                    yield node, f"{name}:{getattr(node, 'lineno', 0)}"

    def test_files(self):
        for path in self.files:
            self.assertRegex(path.name, r"^[a-z0-9_]+\.py$")
        self.assertIn("__init__.py", self.trees)

    def test_signs_and_size(self):
        for path in self.files:
            text = path.read_text(encoding="ascii")
            self.assertIsNone(re.search(r"[^ -~\n]", text), path.name)
            self.assertIsNone(OUT_WORDS.search(text), path.name)
            self.assertLessEqual(text.count("\n"), 400, path.name)
            for line in text.split("\n"):
                self.assertLessEqual(len(line), 120, line)
        for node, place in self.nodes(ast.FunctionDef):
            self.assertLessEqual(node.end_lineno - node.lineno + 1, 40, place)

    def test_statements_and_expressions(self):
        for node, place in self.nodes(*OUT_NODES):
            self.fail(f"{place}: {type(node).__name__}")
        for node, place in self.nodes(ast.For, ast.While):
            self.assertEqual(node.orelse, [], place)
        for node, place in self.nodes(ast.Try):
            self.assertEqual(node.finalbody, [], place)
        for node, place in self.nodes(ast.Assign):
            self.assertEqual(len(node.targets), 1, place)
            self.assertNotIsInstance(node.targets[0], (ast.Tuple, ast.List), place)
        for node, place in self.nodes(ast.Expr):
            self.assertTrue(isinstance(node.value, ast.Call) or is_document(node), place)
        for node, place in self.nodes(ast.ListComp):
            self.assertEqual(len(node.generators), 1, place)
            self.assertLessEqual(len(node.generators[0].ifs), 1, place)
        for node, place in self.nodes(ast.Constant):
            self.assertIn(type(node.value), (int, str, bool, type(None)), place)
        for node, place in self.nodes(ast.BinOp):
            if isinstance(node.op, ast.Pow):
                self.assertIsInstance(node.right, ast.Constant, place)

    def test_functions_and_classes(self):
        for node, place in self.nodes(ast.FunctionDef):
            self.assertEqual(node.decorator_list, [], place)
            self.assertEqual((node.args.vararg, node.args.kwarg), (None, None), place)
            self.assertEqual((node.args.posonlyargs, node.args.kwonlyargs), ([], []), place)
        for node, place in self.nodes(ast.ClassDef):
            self.assertEqual(node.decorator_list + node.keywords, [], place)
            self.assertLessEqual(len(node.bases), 1, place)
            for inner in node.body:
                self.assertTrue(isinstance(inner, (ast.FunctionDef, ast.Pass)) or is_document(inner), place)

    def test_the_top_of_a_file(self):
        plain = (ast.ImportFrom, ast.FunctionDef, ast.ClassDef, ast.Assign, ast.Expr)
        for name, tree in self.trees.items():
            self.assertIsNotNone(ast.get_docstring(tree), name)
            for node in tree.body:
                self.assertIsInstance(node, plain, name)
        for node, place in self.nodes(ast.ImportFrom):
            self.assertEqual(node.level, 0, place)
            self.assertTrue(node.module.startswith("splithouse."), place)
            self.assertNotIn("*", [alias.name for alias in node.names], place)

    def test_names_are_drawn_from_the_file_that_defines_them(self):
        for node, place in self.nodes(ast.ImportFrom):
            tree = self.trees[node.module.removeprefix("splithouse.") + ".py"]
            defined = {inner.name for inner in tree.body if isinstance(inner, (ast.FunctionDef, ast.ClassDef))}
            defined |= {inner.targets[0].id for inner in tree.body if isinstance(inner, ast.Assign)}
            for alias in node.names:
                self.assertIn(alias.name, defined, place)
                self.assertIsNone(alias.asname, place)

    def test_no_two_files_draw_from_one_another(self):
        left = {name.removesuffix(".py"): {node.module.removeprefix("splithouse.") for node in tree.body
                                           if isinstance(node, ast.ImportFrom)} for name, tree in self.trees.items()}
        while left:
            free = [name for name, drawn in left.items() if not drawn & set(left)]
            self.assertNotEqual(free, [], left)
            for name in free:
                del left[name]

    def test_no_parameter_and_no_local_is_called_like_a_name_of_the_top(self):
        for name, tree in self.trees.items():
            tops = {alias.name for node in tree.body if isinstance(node, ast.ImportFrom) for alias in node.names}
            tops |= {node.name for node in tree.body if isinstance(node, (ast.FunctionDef, ast.ClassDef))}
            for node in ast.walk(tree):
                if isinstance(node, ast.arg):
                    self.assertNotIn(node.arg, tops, name)
                elif isinstance(node, ast.Name) and isinstance(node.ctx, ast.Store):
                    self.assertNotIn(node.id, tops, name)

    def test_what_is_walked_at_once_is_not_kept(self):
        walked = set()
        for node, place in self.nodes(ast.For, ast.comprehension):
            walked.add(node.iter)
        for node, place in self.nodes(ast.Call):
            if isinstance(node.func, ast.Name) and node.func.id in WALKERS or called(node) == "join":
                walked.update(node.args)
        for node, place in self.nodes(ast.Call):
            # The program has a function called keys, which is none of a dict's.
            if called(node) in (WALKED_FUNCTIONS if isinstance(node.func, ast.Name) else WALKED_METHODS):
                self.assertIn(node, walked, place)

    def test_names(self):
        for node, place in self.nodes(ast.Name):
            if node.id in dir(builtins):
                self.assertIsInstance(node.ctx, ast.Load, place)
                self.assertIn(node.id, OWN_NAMES, place)
            self.assertRegex(node.id, r"^[A-Za-z]\w*$", place)
        for node, place in self.nodes(ast.arg):
            self.assertNotIn(node.arg, dir(builtins), place)
            self.assertRegex(node.arg, r"^[A-Za-z]\w*$", place)
        for node, place in self.nodes(ast.FunctionDef):
            if node.name not in TWO_UNDERSCORES:
                self.assertRegex(node.name, r"^[A-Za-z]\w*$", place)

    def test_methods(self):
        own = {node.name for node, place in self.nodes(ast.FunctionDef)}
        for node, place in self.nodes(ast.Call):
            if isinstance(node.func, ast.Attribute):
                self.assertIn(node.func.attr, METHODS | own, place)

    def test_own_methods_and_values_are_called_like_none_of_python(self):
        taken = {name for kind in (str, int, list, tuple, dict, set, bytes) for name in dir(kind)} - {"__init__"}
        methods = {inner.name for node, place in self.nodes(ast.ClassDef) for inner in node.body
                   if isinstance(inner, ast.FunctionDef)}
        values = {node.attr for node, place in self.nodes(ast.Attribute) if isinstance(node.ctx, ast.Store)}
        self.assertEqual((methods | values) & taken, set())
        self.assertEqual(methods & values, set())
        for node, place in self.nodes(ast.Attribute):
            self.assertIn(node.attr, METHODS | methods | values, place)

    def test_values_are_given_through_a_local_name_alone(self):
        for node, place in self.nodes(ast.Attribute):
            if isinstance(node.ctx, ast.Store):
                self.assertEqual(getattr(node.value, "id", None), "self", place)

    def test_names_of_the_top_are_bound_once(self):
        for name, tree in self.trees.items():
            bound = [alias.name for node in tree.body if isinstance(node, ast.ImportFrom) for alias in node.names]
            bound += [node.name for node in tree.body if isinstance(node, (ast.FunctionDef, ast.ClassDef))]
            bound += [node.targets[0].id for node in tree.body if isinstance(node, ast.Assign)]
            self.assertEqual(len(bound), len(set(bound)), name)

    def test_plain_values_at_the_top(self):
        for name, tree in self.trees.items():
            for node in tree.body:
                if isinstance(node, ast.Assign):
                    self.assertNotIsInstance(ast.literal_eval(node.value), (list, dict, set), name)

    def test_texts(self):
        for node, place in self.nodes(ast.Constant):
            if isinstance(node.value, str):
                self.assertNotIn("%", node.value, place)
        for node, place in self.nodes(ast.FormattedValue):
            self.assertIsInstance(node.value, ast.Name, place)
            self.assertIsNone(node.format_spec, place)

    def test_sets_are_asked_on_the_spot(self):
        inner = set()
        for node, place in self.nodes(ast.Call):
            if isinstance(node.func, ast.Name) and node.func.id in ("sorted", "len"):
                inner.update(node.args)
        for node, place in self.nodes(ast.Call):
            if isinstance(node.func, ast.Name) and node.func.id in ("set", "frozenset"):
                self.assertIn(node, inner, place)
        self.assertEqual([place for node, place in self.nodes(ast.Set)], [])

    def test_is_stands_beside_none_true_and_false_alone(self):
        for node, place in self.nodes(ast.Compare):
            for op, right in zip(node.ops, node.comparators):
                if isinstance(op, (ast.Is, ast.IsNot)):
                    self.assertIn(getattr(right, "value", right), (None, True, False), place)


if __name__ == "__main__":
    unittest.main()
