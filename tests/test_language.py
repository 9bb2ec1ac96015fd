"""The package keeps to the rules of LANGUAGE.md, as far as its own code comes near to breaking them."""

import ast
import builtins
import pathlib
import re
import unittest
import warnings

PACKAGE = pathlib.Path(__file__).resolve().parent.parent / "handnames"
FILES = sorted(path for path in PACKAGE.rglob("*") if path.is_file() and "__pycache__" not in path.parts)

NODES = """
    Module FunctionDef ClassDef Return Delete Assign AugAssign AnnAssign For While If Raise Try Assert ImportFrom
    Expr Pass Break Continue BoolOp BinOp UnaryOp Lambda IfExp Dict Set ListComp SetComp DictComp comprehension
    Compare Call FormattedValue JoinedStr Constant Attribute Subscript Starred Name List Tuple Slice Load Store Del
    And Or Add Sub Mult Mod Pow LShift RShift BitOr BitXor BitAnd FloorDiv Invert Not USub
    Eq NotEq Lt LtE Gt GtE Is IsNot In NotIn ExceptHandler arguments arg keyword alias
""".split()
BUILTINS = """
    len range enumerate zip min max sum abs sorted reversed int str bool bytes list tuple dict set frozenset
    isinstance ord repr any all divmod Exception ValueError TypeError KeyError IndexError LookupError
    ZeroDivisionError ArithmeticError OverflowError RuntimeError NotImplementedError AttributeError StopIteration
""".split()
# The first list of L25: the package has no use for the others.
VALUE_METHODS = """
    append clear copy count endswith extend find get index insert isalnum isalpha isdigit islower isspace isupper
    items join keys ljust lower lstrip partition pop remove replace reverse rfind rjust rpartition rsplit rstrip
    setdefault split splitlines startswith strip update upper values zfill bit_length
""".split()
METHODS = ["__init__", "__eq__", "__repr__", "__str__", "__len__"]
BARRED_NAMES = """
    register mro elements open input version_info with_traceback add_note attrgetter breakpoint compile copyright
    credits delattr dir eval exec exit gc getattr globals hasattr help id importlib license locals methodcaller os
    quit setattr super vars sys chr
""".split()
BARRED_WORDS = re.compile(
    r"\b(type|typing|typing_extensions|enum|Enum|IntEnum|StrEnum|Flag|IntFlag|Generic|Protocol|ABC|ABCMeta"
    r"|namedtuple|NamedTuple|TypedDict|TYPE_CHECKING|abstractmethod)\b|dataclass|overload|contextmanager"
)


def bound_names(tree):
    """Every name that the file gives a meaning: variables, parameters, functions, classes, imports, caught errors."""
    for node in ast.walk(tree):
        if isinstance(node, ast.Name) and isinstance(node.ctx, ast.Store):
            yield node.id
        elif isinstance(node, ast.arg):
            yield node.arg
        elif isinstance(node, (ast.FunctionDef, ast.ClassDef)):
            yield node.name
        elif isinstance(node, ast.alias):
            yield node.asname or node.name
        elif isinstance(node, ast.ExceptHandler) and node.name:
            yield node.name


def defined_names(tree):
    """The names that the file itself defines at module level."""
    names = [node.name for node in tree.body if isinstance(node, (ast.FunctionDef, ast.ClassDef))]
    return names + [target.id for node in tree.body if isinstance(node, ast.Assign) for target in node.targets]


def imported_names(tree):
    """The names that the file imports."""
    return [name.asname or name.name for node in tree.body if isinstance(node, ast.ImportFrom) for name in node.names]


class Language(unittest.TestCase):
    def each(self):
        for path in FILES:
            text = path.read_text(encoding="utf-8")
            yield path, text, ast.parse(text)

    def nodes(self, *kinds):
        for path, text, tree in self.each():
            for node in ast.walk(tree):
                if isinstance(node, kinds):
                    yield path, node

    def test_files_and_characters(self):
        self.assertIn("__init__.py", [path.name for path in FILES])
        for path, text, tree in self.each():
            self.assertRegex(path.name, r"^[a-z][a-z0-9_]*\.py$|^__(init|main)__\.py$", path.name)
            self.assertRegex(text, r"\A[ -~\n]*\Z", path.name)
            self.assertLessEqual(len(text.splitlines()), 400, path.name)
            self.assertLessEqual(max(len(line) for line in text.splitlines()), 120, path.name)
            self.assertIsNone(BARRED_WORDS.search(text), path.name)

    def test_python_itself_warns_of_nothing(self):
        for path, text, tree in self.each():
            with warnings.catch_warnings():
                warnings.simplefilter("error")
                compile(text, path.name, "exec")

    def test_statements_and_expressions(self):
        for path, node in self.nodes(ast.AST):
            self.assertIn(type(node).__name__, NODES, path.name)

    def test_imports_name_files_of_the_package(self):
        modules = ["handnames." + path.stem for path in FILES]
        for path, node in self.nodes(ast.ImportFrom):
            self.assertEqual(node.level, 0, path.name)
            self.assertIn(node.module, modules, path.name)
            self.assertNotIn("*", [name.name for name in node.names], path.name)

    def test_module_level(self):
        for path, text, tree in self.each():
            for at, node in enumerate(tree.body):
                text_alone = isinstance(node, ast.Expr) and isinstance(node.value, ast.Constant)
                kinds = (ast.ImportFrom, ast.FunctionDef, ast.ClassDef, ast.Assign)
                self.assertTrue(isinstance(node, kinds) or (at == 0 and text_alone), path.name)
                if isinstance(node, ast.Assign):
                    barred = (ast.Call, ast.ListComp, ast.DictComp, ast.Set, ast.SetComp, ast.Lambda)
                    self.assertFalse([part for part in ast.walk(node) if isinstance(part, barred)], path.name)

    def test_functions(self):
        for path, node in self.nodes(ast.FunctionDef):
            self.assertLessEqual(node.end_lineno - node.lineno + 1, 40, (path.name, node.name))
            self.assertEqual(node.decorator_list, [], path.name)
            self.assertEqual((node.args.vararg, node.args.kwarg, node.args.posonlyargs), (None, None, []), path.name)
            if node.name.startswith("_"):
                self.assertIn(node.name, METHODS, path.name)

    def test_classes(self):
        for path, node in self.nodes(ast.ClassDef):
            self.assertEqual((node.decorator_list, node.keywords), ([], []), path.name)
            self.assertLessEqual(len(node.bases), 1, path.name)
            for part in node.body[1:]:
                self.assertIsInstance(part, ast.FunctionDef, path.name)

    def test_names(self):
        for path, text, tree in self.each():
            for name in bound_names(tree):
                self.assertRegex(name, r"^[A-Za-z][A-Za-z0-9_]*$|^__(init|eq|repr|str|len)__$", path.name)
                self.assertNotIn(name, BARRED_NAMES, path.name)
                self.assertNotIn(name, dir(builtins), path.name)

    def test_builtins_and_barred_names(self):
        for path, text, tree in self.each():
            own = set(bound_names(tree))
            for node in ast.walk(tree):
                if isinstance(node, ast.Name) and node.id not in own:
                    self.assertIn(node.id, BUILTINS, path.name)
                if isinstance(node, ast.Attribute) and node.attr.startswith("_"):
                    self.assertEqual(node.attr, "__init__", path.name)

    def test_values(self):
        for path, node in self.nodes(ast.Constant):
            self.assertNotIsInstance(node.value, (float, complex), path.name)
            if isinstance(node.value, str):
                self.assertNotIn("%", node.value, path.name)

    def test_imports_name_the_file_that_defines_the_name_and_are_used(self):
        trees = {"handnames." + path.stem: tree for path, text, tree in self.each()}
        for path, text, tree in self.each():
            used = {node.id for node in ast.walk(tree) if isinstance(node, ast.Name)}
            for node in tree.body:
                if isinstance(node, ast.ImportFrom):
                    for name in node.names:
                        self.assertIn(name.name, defined_names(trees[node.module]), path.name)
                        self.assertIn(name.asname or name.name, used, path.name)

    def test_no_two_files_import_from_each_other(self):
        ahead = {"handnames." + path.stem: {node.module for node in tree.body if isinstance(node, ast.ImportFrom)}
                 for path, text, tree in self.each()}
        while ahead:
            free = [name for name in ahead if not ahead[name] & set(ahead)]
            self.assertNotEqual(free, [], ahead)
            ahead = {name: ahead[name] for name in ahead if name not in free}

    def test_each_name_is_bound_once_at_module_level(self):
        for path, text, tree in self.each():
            names = defined_names(tree) + imported_names(tree)
            self.assertEqual(sorted(names), sorted(set(names)), path.name)

    def test_no_local_has_the_name_of_an_import_or_of_what_the_file_defines(self):
        for path, text, tree in self.each():
            barred = set(defined_names(tree) + imported_names(tree))
            for function in [node for node in ast.walk(tree) if isinstance(node, ast.FunctionDef)]:
                for part in function.body + [function.args]:
                    self.assertEqual(set(bound_names(part)) & barred, set(), (path.name, function.name))

    def test_methods_of_values(self):
        for path, node in self.nodes(ast.Call):
            if isinstance(node.func, ast.Attribute):
                self.assertIn(node.func.attr, VALUE_METHODS + ["__init__"], path.name)
                if node.func.attr != "__init__":
                    self.assertEqual(node.keywords, [], path.name)

    def test_sets_stand_in_len_and_sorted_alone(self):
        for path, text, tree in self.each():
            allowed = []
            for node in ast.walk(tree):
                self.assertNotIsInstance(node, (ast.Set, ast.SetComp), path.name)
                if isinstance(node, ast.Call) and isinstance(node.func, ast.Name):
                    if node.func.id in ("len", "sorted"):
                        allowed += node.args
                    if node.func.id in ("set", "frozenset"):
                        self.assertIn(node, allowed, path.name)

    def test_what_is_iterated_at_once_is_not_stored(self):
        for path, node in self.nodes(ast.Assign, ast.Return):
            if isinstance(node.value, ast.Call):
                made_by = getattr(node.value.func, "id", getattr(node.value.func, "attr", None))
                barred = ("zip", "enumerate", "reversed", "range", "items", "keys", "values")
                self.assertNotIn(made_by, barred, path.name)

    def test_raise_makes_its_error_on_the_spot(self):
        for path, node in self.nodes(ast.Raise):
            self.assertIsInstance(node.exc, ast.Call, path.name)
            self.assertIsInstance(node.exc.func, ast.Name, path.name)

    def test_is_stands_beside_none_true_and_false_alone(self):
        for path, node in self.nodes(ast.Compare):
            for sign, right in zip(node.ops, node.comparators):
                if isinstance(sign, (ast.Is, ast.IsNot)):
                    self.assertIsInstance(right, ast.Constant, path.name)
                    self.assertTrue(right.value is None or isinstance(right.value, bool), path.name)

    def test_errors_are_caught_by_their_own_names(self):
        for path, node in self.nodes(ast.ExceptHandler):
            self.assertIsNotNone(node.type, path.name)
            caught = node.type.elts if isinstance(node.type, ast.Tuple) else [node.type]
            self.assertNotEqual(caught, [], path.name)
            for name in caught:
                self.assertNotIn(name.id, ("Exception", "TypeError"), path.name)


if __name__ == "__main__":
    unittest.main()
