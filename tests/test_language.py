"""The form of the code: those rules of LANGUAGE.md that a short check can see."""

import ast
import pathlib
import re
import unittest
import warnings

ROOT = pathlib.Path(__file__).resolve().parent.parent
FOLDER = ROOT / "pyheap"
BUILTINS = set("""
    len range enumerate zip min max sum abs sorted reversed int str bool bytes list tuple dict set frozenset
    isinstance ord repr any all divmod Exception ValueError TypeError KeyError IndexError LookupError
    ZeroDivisionError ArithmeticError OverflowError RuntimeError NotImplementedError AttributeError
    StopIteration NotImplemented
""".split())
BUILTIN_METHODS = set("""
    append clear copy count endswith extend find get index insert isalnum isalpha isdigit islower isspace isupper
    items join keys ljust lower lstrip partition pop remove replace reverse rfind rjust rpartition rsplit rstrip
    setdefault split splitlines startswith strip update upper values zfill bit_length isascii
""".split())
BARRED_NAMES = set("""
    register mro elements open input version_info with_traceback add_note attrgetter breakpoint builtins compile
    copyright credits delattr dir eval exec exit gc getattr globals hasattr help id importlib license locals
    methodcaller os quit setattr super type vars sys format format_map chr print hash next map round filter iter
""".split())
BARRED_WORDS = re.compile(
    r"\b(type|typing|typing_extensions|enum|Enum|IntEnum|StrEnum|Flag|IntFlag|Generic|Protocol|ABC|ABCMeta|"
    r"namedtuple|NamedTuple|TypedDict|TYPE_CHECKING|abstractmethod)\b|dataclass|overload|contextmanager"
)
ITERATED_AT_ONCE = {"range", "zip", "enumerate", "reversed", "items", "keys", "values"}
MAY_ITERATE = {"list", "tuple", "dict", "sorted", "sum", "any", "all", "enumerate", "zip", "min", "max"}
DOUBLE_UNDERSCORE = {"__init__", "__eq__", "__repr__", "__len__"}
BARRED_NODES = (
    ast.Global, ast.AsyncFunctionDef, ast.AsyncFor, ast.AsyncWith, ast.Await, ast.Import, ast.Div,
)


class Source:
    def __init__(self, path):
        self.path = path
        self.text = path.read_bytes().decode("ascii")
        self.lines = self.text.split("\n")
        self.tree = ast.parse(self.text)
        self.nodes = list(ast.walk(self.tree))

    def of(self, *kinds):
        return [node for node in self.nodes if isinstance(node, kinds)]


def sources():
    return [Source(path) for path in sorted(FOLDER.glob("*.py"))]


def bound_at_module_level(source):
    names = []
    for node in source.tree.body:
        if isinstance(node, (ast.FunctionDef, ast.ClassDef)):
            names.append(node.name)
        elif isinstance(node, ast.ImportFrom):
            names.extend(alias.asname or alias.name for alias in node.names)
        elif isinstance(node, ast.Assign):
            names.extend(target.id for target in node.targets)
    return names


def called_name(node):
    """The name that a call calls, of a function or a method; None of anything else."""
    if not isinstance(node, ast.Call):
        return None
    return getattr(node.func, "id", getattr(node.func, "attr", None))


def first_arguments(source, names):
    """What stands first in the calls of these builtins."""
    return [node.args[0] for node in source.of(ast.Call) if called_name(node) in names and node.args]


def local_names(source):
    names = {node.arg for node in source.of(ast.arg)}
    for function in source.of(ast.FunctionDef):
        stored = [node for node in ast.walk(function) if isinstance(node, ast.Name)]
        names |= {node.id for node in stored if not isinstance(node.ctx, ast.Load)}
    return names


def imports_of(source):
    return {node.module for node in source.of(ast.ImportFrom) if node.module != "__future__"}


class Language(unittest.TestCase):
    def setUp(self):
        self.sources = sources()
        self.assertTrue(self.sources)

    def test_the_folder_holds_only_python_files(self):
        names = [path.name for path in FOLDER.iterdir() if path.name != "__pycache__"]
        self.assertIn("__init__.py", names)
        for name in names:
            self.assertRegex(name, r"\A([a-z][a-z0-9_]*|__init__)\.py\Z")

    def test_characters_and_lengths(self):
        for source in self.sources:
            with self.subTest(file=source.path.name):
                self.assertRegex(source.text, r"\A[ -~\n]*\n\Z")
                self.assertLessEqual(len(source.lines), 400)
                self.assertLessEqual(max(map(len, source.lines)), 120)
                for node in source.of(ast.FunctionDef):
                    self.assertLessEqual(node.end_lineno - node.lineno + 1, 40, node.name)

    def test_python_warns_of_no_line(self):
        for source in self.sources:
            with self.subTest(file=source.path.name):
                with warnings.catch_warnings():
                    warnings.simplefilter("error")
                    compile(source.text, source.path.name, "exec")

    def test_words(self):
        for source in self.sources:
            with self.subTest(file=source.path.name):
                self.assertIsNone(BARRED_WORDS.search(source.text))

    def test_statements_and_signs(self):
        for source in self.sources:
            with self.subTest(file=source.path.name):
                self.assertEqual(source.of(*BARRED_NODES), [])
                for node in source.of(ast.Constant):
                    self.assertNotIsInstance(node.value, (float, complex))
                    self.assertNotIn("%", node.value if isinstance(node.value, str) else "")

    def test_module_level(self):
        for source in self.sources:
            with self.subTest(file=source.path.name):
                for node in source.tree.body:
                    is_docstring = isinstance(node, ast.Expr) and isinstance(node.value, ast.Constant)
                    plain = (ast.FunctionDef, ast.ClassDef, ast.ImportFrom, ast.Assign)
                    self.assertTrue(is_docstring or isinstance(node, plain), ast.dump(node))
                names = bound_at_module_level(source)
                self.assertEqual(len(names), len(set(names)))

    def test_imports(self):
        files = {f"pyheap.{source.path.stem}": source for source in self.sources}
        for source in self.sources:
            with self.subTest(file=source.path.name):
                for node in source.of(ast.ImportFrom):
                    if node.module == "__future__":
                        continue
                    self.assertEqual(node.level, 0)
                    self.assertIn(node, source.tree.body)
                    defined = {
                        part.name for part in files[node.module].tree.body
                        if isinstance(part, (ast.FunctionDef, ast.ClassDef))
                    } | {
                        target.id for part in files[node.module].tree.body
                        if isinstance(part, ast.Assign) for target in part.targets
                    }
                    self.assertLessEqual({alias.name for alias in node.names}, defined)

    def test_no_two_files_import_from_each_other(self):
        left = {f"pyheap.{source.path.stem}": imports_of(source) for source in self.sources}
        while left:
            free = [name for name in left if not left[name] & set(left)]
            self.assertTrue(free, left)
            for name in free:
                del left[name]

    def test_names(self):
        for source in self.sources:
            with self.subTest(file=source.path.name):
                for node in source.nodes:
                    for field in ("id", "attr", "arg", "name", "asname"):
                        name = getattr(node, field, None)
                        if not isinstance(name, str) or name in DOUBLE_UNDERSCORE:
                            continue
                        self.assertFalse(name.startswith("_"), name)
                        self.assertNotIn(name, BARRED_NAMES)

    def test_only_known_builtins_are_read_and_none_is_given_another_meaning(self):
        for source in self.sources:
            with self.subTest(file=source.path.name):
                assigned = {node.id for node in source.of(ast.Name) if not isinstance(node.ctx, ast.Load)}
                assigned |= {node.arg for node in source.of(ast.arg)}
                assigned |= set(bound_at_module_level(source))
                assigned |= {node.name for node in source.of(ast.FunctionDef) if node.name not in DOUBLE_UNDERSCORE}
                self.assertEqual(assigned & BUILTINS, set())
                read = {node.id for node in source.of(ast.Name) if isinstance(node.ctx, ast.Load)}
                self.assertLessEqual(read - assigned, BUILTINS)

    def test_no_local_name_is_one_of_a_class_or_an_import(self):
        for source in self.sources:
            with self.subTest(file=source.path.name):
                taken = {node.name for node in source.of(ast.ClassDef)}
                taken |= {alias.asname or alias.name for node in source.of(ast.ImportFrom) for alias in node.names}
                self.assertEqual(local_names(source) & taken, set())

    def test_ranges_and_the_like_are_iterated_on_the_spot(self):
        for source in self.sources:
            with self.subTest(file=source.path.name):
                allowed = [node.iter for node in source.of(ast.For, ast.comprehension)]
                allowed += first_arguments(source, MAY_ITERATE)
                for node in source.of(ast.Call):
                    if called_name(node) in ITERATED_AT_ONCE:
                        self.assertIn(node, allowed, ast.unparse(node))

    def test_sets_are_only_counted_or_sorted_and_builtins_take_lists(self):
        # Stricter than L7 and L24: neither a generator nor a set that is stored is needed here.
        for source in self.sources:
            with self.subTest(file=source.path.name):
                allowed = first_arguments(source, {"len", "sorted"})
                for node in source.nodes:
                    if isinstance(node, (ast.Set, ast.SetComp)) or called_name(node) in ("set", "frozenset"):
                        self.assertIn(node, allowed, ast.unparse(node))
                self.assertEqual(source.of(ast.GeneratorExp, ast.Yield, ast.YieldFrom), [])

    def test_methods_and_attributes(self):
        methods, stored = set(), set()
        for source in self.sources:
            for node in source.of(ast.ClassDef):
                methods |= {part.name for part in node.body if isinstance(part, ast.FunctionDef)}
            stored |= {node.attr for node in source.of(ast.Attribute) if isinstance(node.ctx, ast.Store)}
        self.assertEqual(methods & stored, set())
        for source in self.sources:
            with self.subTest(file=source.path.name):
                called = {node.func.attr for node in source.of(ast.Call) if isinstance(node.func, ast.Attribute)}
                self.assertLessEqual(called, methods | BUILTIN_METHODS)
                read = {node.attr for node in source.of(ast.Attribute) if isinstance(node.ctx, ast.Load)}
                self.assertLessEqual(read - called, stored)

    def test_attributes_are_assigned_through_local_names(self):
        for source in self.sources:
            with self.subTest(file=source.path.name):
                for node in source.of(ast.Attribute):
                    if isinstance(node.ctx, ast.Store):
                        self.assertIsInstance(node.value, ast.Name, ast.unparse(node))

    def test_methods_that_python_calls_assign_nothing(self):
        for source in self.sources:
            with self.subTest(file=source.path.name):
                for node in source.of(ast.FunctionDef):
                    if node.name in DOUBLE_UNDERSCORE - {"__init__"}:
                        self.assertIsInstance(node.body[-1], ast.Return)
                        stored = [part for part in ast.walk(node) if isinstance(getattr(part, "ctx", None), ast.Store)]
                        self.assertEqual(stored, [])

    def test_is_stands_only_beside_none_and_truths(self):
        for source in self.sources:
            with self.subTest(file=source.path.name):
                for node in source.of(ast.Compare):
                    for sign, right in zip(node.ops, node.comparators):
                        if isinstance(sign, (ast.Is, ast.IsNot)):
                            self.assertIsInstance(right, ast.Constant)
                            self.assertIn(right.value, (None, True, False))

    def test_errors_are_made_on_the_spot_and_caught_by_name(self):
        for source in self.sources:
            with self.subTest(file=source.path.name):
                for node in source.of(ast.Raise):
                    is_made = isinstance(node.exc, ast.Call) and isinstance(node.exc.func, ast.Name)
                    self.assertTrue(node.exc is None or is_made)
                for node in source.of(ast.ExceptHandler):
                    self.assertIsNotNone(node.type)
                    self.assertNotIn("Exception", ast.unparse(node.type))
                    self.assertNotIn("TypeError", ast.unparse(node.type))


if __name__ == "__main__":
    unittest.main()
