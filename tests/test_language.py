"""The rules of LANGUAGE.md that can be read off the package's files at a glance (not all of them)."""

import ast
import builtins
import pathlib
import re
import unittest

PACKAGE = pathlib.Path(__file__).resolve().parent.parent / "balconyrow"

BUILTINS = set(
    "len range enumerate zip min max sum abs sorted reversed int str bool bytes list tuple dict set frozenset "
    "isinstance ord repr any all divmod iter next Exception ValueError TypeError KeyError IndexError LookupError "
    "ZeroDivisionError ArithmeticError OverflowError RuntimeError NotImplementedError AttributeError StopIteration "
    "NotImplemented property staticmethod classmethod super".split())

WORDS = re.compile(
    r"\b(type|typing|typing_extensions|enum|Enum|IntEnum|StrEnum|Flag|IntFlag|Generic|Protocol|ABC|ABCMeta|namedtuple|"
    r"NamedTuple|TypedDict|TYPE_CHECKING|abstractmethod)\b|dataclass|overload|contextmanager")

NAMES_NOWHERE = set("register mro elements open input law version_info with_traceback add_note".split())

METHODS_OF_VALUES = set(
    "append clear copy count endswith extend find get index insert isalnum isalpha isdigit islower isspace isupper "
    "items join keys ljust lower lstrip partition pop remove replace reverse rfind rjust rpartition rsplit rstrip "
    "setdefault split splitlines startswith strip update upper values zfill bit_length add discard sort".split())

DOUBLE_UNDERSCORES = {"__init__", "__eq__", "__repr__", "__len__"}

NOT_ALLOWED = (
    ast.Global, ast.AsyncFunctionDef, ast.AsyncFor, ast.AsyncWith, ast.Await, ast.Div, ast.MatMult, ast.Import)


def files():
    return sorted(PACKAGE.rglob("*.py"))


def trees():
    return [(path.name, ast.parse(path.read_text())) for path in files()]


def bound_names(tree):
    """All names that a file gives to something, wherever in it."""
    for node in ast.walk(tree):
        if isinstance(node, (ast.FunctionDef, ast.ClassDef)):
            yield node.name
        elif isinstance(node, ast.arg):
            yield node.arg
        elif isinstance(node, ast.Name) and isinstance(node.ctx, ast.Store):
            yield node.id
        elif isinstance(node, ast.alias):
            yield node.asname or node.name


def module_names(tree):
    """The functions, classes and values that stand at module level, each as often as it is bound."""
    for node in tree.body:
        if isinstance(node, (ast.FunctionDef, ast.ClassDef)):
            yield node.name
        elif isinstance(node, ast.Assign):
            yield from [target.id for target in node.targets]
        elif isinstance(node, ast.ImportFrom):
            yield from [alias.asname or alias.name for alias in node.names]


class Files(unittest.TestCase):
    def test_the_folder(self):
        self.assertTrue((PACKAGE / "__init__.py").is_file())
        for path in PACKAGE.rglob("*"):
            if path.name != "__pycache__" and path.parent.name != "__pycache__":
                self.assertRegex(path.name, r"^[a-z0-9_]+\.py$")
                self.assertFalse(path.stem.startswith("test") or path.stem in dir(builtins), path)
        self.assertLessEqual(len(files()), 100)

    def test_characters_and_lines(self):
        for path in files():
            text = path.read_bytes().decode("ascii")
            self.assertTrue(all(sign == "\n" or " " <= sign <= "~" for sign in text), path)
            self.assertLessEqual(text.count("\n"), 399, path)
            self.assertLessEqual(max(map(len, text.split("\n"))), 120, path)
            self.assertIsNone(WORDS.search(text), path)

    def test_functions_are_short(self):
        for name, tree in trees():
            for node in ast.walk(tree):
                if isinstance(node, ast.FunctionDef):
                    self.assertLessEqual(node.end_lineno - node.lineno + 1, 40, (name, node.name))


class Modules(unittest.TestCase):
    def test_what_stands_at_module_level(self):
        for name, tree in trees():
            for at, node in enumerate(tree.body):
                docstring = at == 0 and isinstance(node, ast.Expr) and isinstance(node.value, ast.Constant)
                kinds = (ast.ImportFrom, ast.FunctionDef, ast.ClassDef, ast.Assign)
                self.assertTrue(docstring or isinstance(node, kinds), (name, node.lineno))

    def test_each_name_is_bound_once(self):
        for name, tree in trees():
            names = list(module_names(tree))
            self.assertEqual(len(names), len(set(names)), name)

    def test_imports_name_the_file_that_defines(self):
        defined = {}
        for path in files():
            tree = ast.parse(path.read_text())
            own = [node for node in tree.body if not isinstance(node, ast.ImportFrom)]
            defined["balconyrow." + path.stem] = set(module_names(ast.Module(own, [])))
        for name, tree in trees():
            for node in ast.walk(tree):
                if isinstance(node, ast.ImportFrom):
                    self.assertEqual(node.level, 0, name)
                    self.assertLessEqual({alias.name for alias in node.names}, defined.get(node.module, set()), name)

    def test_no_two_files_import_from_each_other(self):
        imports = {
            "balconyrow." + name[:-3]: {node.module for node in ast.walk(tree) if isinstance(node, ast.ImportFrom)}
            for name, tree in trees()}
        while imports:
            free = [name for name in imports if not imports[name] & set(imports)]
            self.assertTrue(free, sorted(imports))
            imports = {name: imports[name] for name in imports if name not in free}


    def test_no_name_in_a_function_is_that_of_an_import(self):
        for name, tree in trees():
            imported = {
                alias.asname or alias.name for node in tree.body if isinstance(node, ast.ImportFrom)
                for alias in node.names}
            for function in [node for node in ast.walk(tree) if isinstance(node, ast.FunctionDef)]:
                self.assertEqual(set(bound_names(function)) & imported, set(), (name, function.name))


class Code(unittest.TestCase):
    def test_no_statement_or_sign_that_is_left_out(self):
        for name, tree in trees():
            for node in ast.walk(tree):
                self.assertNotIsInstance(node, NOT_ALLOWED, (name, getattr(node, "lineno", 0)))
                self.assertFalse(isinstance(node, ast.Constant) and isinstance(node.value, (float, complex)), name)
                if isinstance(node, ast.Constant) and isinstance(node.value, str):
                    self.assertNotIn("%", node.value, (name, node.lineno))

    def test_builtins(self):
        barred = set(dir(builtins)) - BUILTINS
        for name, tree in trees():
            read = {node.id for node in ast.walk(tree) if isinstance(node, ast.Name)}
            self.assertEqual(read & barred, set(), name)

    def test_names(self):
        for name, tree in trees():
            methods = {
                id(node) for outer in ast.walk(tree) if isinstance(outer, ast.ClassDef) for node in outer.body}
            for bound in bound_names(tree):
                if bound not in DOUBLE_UNDERSCORES:
                    self.assertRegex(bound, r"^[A-Za-z][A-Za-z0-9_]*$", name)
                    self.assertNotIn(bound, NAMES_NOWHERE, name)
                    self.assertNotIn(bound, dir(builtins), name)
            for node in ast.walk(tree):
                if isinstance(node, ast.FunctionDef) and node.name in DOUBLE_UNDERSCORES:
                    self.assertIn(id(node), methods, name)

    def test_methods_are_own_ones_or_those_of_values(self):
        own = {
            node.name for _, tree in trees() for outer in ast.walk(tree) if isinstance(outer, ast.ClassDef)
            for node in outer.body if isinstance(node, ast.FunctionDef)}
        for name, tree in trees():
            for node in ast.walk(tree):
                if isinstance(node, ast.Call) and isinstance(node.func, ast.Attribute):
                    self.assertIn(node.func.attr, own | METHODS_OF_VALUES, (name, node.lineno))

    def test_no_generator_expressions(self):
        """As Gallery has an __eq__, most builtins take a list; the package does so everywhere."""
        for name, tree in trees():
            for node in ast.walk(tree):
                self.assertNotIsInstance(node, (ast.GeneratorExp, ast.Yield, ast.YieldFrom), name)

    def test_a_finally_only_notes(self):
        for name, tree in trees():
            for node in ast.walk(tree):
                if isinstance(node, ast.Try) and node.finalbody:
                    self.assertEqual(len(node.finalbody), 1, (name, node.lineno))
                    self.assertRegex(
                        ast.unparse(node.finalbody[0]), r"^self\.notes\.append\(\('out', '[a-z]+'\)\)$", name)

    def test_own_errors_alone_are_caught(self):
        for name, tree in trees():
            for node in ast.walk(tree):
                if isinstance(node, ast.ExceptHandler):
                    caught = node.type.elts if isinstance(node.type, ast.Tuple) else [node.type]
                    for one in caught:
                        self.assertNotIn(one.id, dir(builtins), (name, node.lineno))

    def test_no_name_is_a_method_and_an_attribute(self):
        methods, attributes = set(), set()
        for _, tree in trees():
            for node in ast.walk(tree):
                if isinstance(node, ast.ClassDef):
                    methods |= {part.name for part in node.body if isinstance(part, ast.FunctionDef)}
                if isinstance(node, ast.Attribute) and isinstance(node.ctx, ast.Store):
                    attributes.add(node.attr)
        self.assertEqual(methods & attributes, set())
        self.assertEqual((methods | attributes) & (METHODS_OF_VALUES | NAMES_NOWHERE), set())

    def test_is_stands_with_none_true_and_false(self):
        for name, tree in trees():
            for node in ast.walk(tree):
                if isinstance(node, ast.Compare) and isinstance(node.ops[0], (ast.Is, ast.IsNot)):
                    beside = node.comparators[0]
                    self.assertTrue(isinstance(beside, ast.Constant) and beside.value in (None, True, False), name)


if __name__ == "__main__":
    unittest.main()
