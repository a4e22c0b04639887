"""The rules of the subset of Python that a test can see in the files of the package."""

import ast
import builtins
import functools
import pathlib
import re
import unittest

PACKAGE = pathlib.Path(__file__).resolve().parent.parent / "coverstore"
FILES = sorted(PACKAGE.glob("**/*.py"))
TREES = {file.stem: ast.parse(file.read_text()) for file in FILES}
NODES = [(file, node) for file, tree in TREES.items() for node in ast.walk(tree)]

BUILTINS = set("""
    len range enumerate zip min max sum abs sorted reversed int str bool bytes list tuple dict set isinstance ord repr
    any all divmod iter next super property classmethod staticmethod Exception ValueError TypeError KeyError IndexError
    LookupError ZeroDivisionError ArithmeticError OverflowError RuntimeError NotImplementedError AttributeError
""".split())

DOUBLE_UNDERSCORES = set("__init__ __eq__ __repr__ __str__ __len__ __and__ __contains__ __getitem__ __iter__".split())

VALUE_METHODS = set("""
    append clear copy count endswith extend find get index insert isalnum isalpha isdigit islower isspace isupper items
    join keys ljust lower lstrip partition pop remove replace reverse rfind rjust rpartition rsplit rstrip setdefault
    split splitlines startswith strip update upper values zfill bit_length isascii isdecimal removeprefix removesuffix
""".split())

STATEMENTS = (
    ast.FunctionDef, ast.ClassDef, ast.ImportFrom, ast.Assign, ast.AugAssign, ast.If, ast.While, ast.For, ast.Return,
    ast.Break, ast.Continue, ast.Pass, ast.Raise, ast.Assert, ast.Delete, ast.Expr, ast.Try,
)

BARRED_NAMES = set("""
    register mro elements open input law version_info with_traceback add_note attrgetter breakpoint builtins compile
    copyright credits delattr dir eval exec exit gc getattr globals hasattr help id importlib license locals
    methodcaller os quit setattr sys type vars map deque
""".split())

BARRED_WORDS = re.compile(
    r"\b(type|typing|typing_extensions|enum|Enum|IntEnum|StrEnum|Flag|IntFlag|Generic|Protocol|ABC|ABCMeta|namedtuple"
    r"|NamedTuple|TypedDict|TYPE_CHECKING|abstractmethod|_wall|_WallAttr)\b|dataclass|overload|contextmanager|Meta|%"
)


def walk(kinds):
    """All (file, node) of these kinds."""
    return [(file, node) for file, node in NODES if isinstance(node, kinds)]


@functools.cache
def classes():
    return [node for _, node in walk(ast.ClassDef)]


@functools.cache
def decorated(name):
    """The names of all methods under a decorator."""
    return [
        method.name for _, method in walk(ast.FunctionDef)
        if [one.id for one in method.decorator_list if isinstance(one, ast.Name)] == [name]
    ]


@functools.cache
def plain_methods():
    return [
        method.name for found in classes() for method in found.body
        if isinstance(method, ast.FunctionDef) and not method.decorator_list
    ]


@functools.cache
def stored_attributes():
    return [node.attr for _, node in walk(ast.Attribute) if isinstance(node.ctx, ast.Store)]


@functools.cache
def class_values():
    return [
        target.id for found in classes() for node in found.body if isinstance(node, ast.Assign)
        for target in node.targets
    ]


def bound_names(function):
    """The names of the parameters and local variables of a function."""
    given = function.args
    names = [one.arg for one in given.posonlyargs + given.args + given.kwonlyargs]
    names += [one.arg for one in (given.vararg, given.kwarg) if one is not None]
    return names + [
        node.id for node in ast.walk(function) if isinstance(node, ast.Name) and isinstance(node.ctx, ast.Store)
    ]


class FilesTest(unittest.TestCase):

    def test_only_small_python_files(self):
        for path in PACKAGE.glob("**/*"):
            if "__pycache__" not in path.parts:
                self.assertRegex(path.name, r"^[a-z_0-9]+\.py$")
        for file in FILES:
            text = file.read_text()
            self.assertLessEqual(len(text.splitlines()), 399, file)
            self.assertRegex(text, r"^[\n -~]*$")
            for line in text.splitlines():
                self.assertLessEqual(len(line), 120, file)

    def test_small_functions_without_strange_decorators(self):
        for file, node in walk(ast.FunctionDef):
            self.assertLessEqual(node.end_lineno - node.lineno + 1, 40, (file, node.name))
            for decorator in node.decorator_list:
                self.assertIn(decorator.id, ("property", "classmethod", "staticmethod"))
            if node.name.startswith("__"):
                self.assertIn(node.name, DOUBLE_UNDERSCORES)

    def test_words(self):
        for file in FILES:
            code = re.sub(r'"""(.|\n)*?"""|#.*', "", file.read_text())
            for line in code.splitlines():
                if not re.search(r"\w+ % \w+", line):
                    self.assertIsNone(BARRED_WORDS.search(line), (file, line))


class ImportsTest(unittest.TestCase):

    def imports(self, file):
        return [node for node in TREES[file].body if isinstance(node, ast.ImportFrom)]

    def test_only_from_the_file_that_defines(self):
        for file, node in walk((ast.Import, ast.ImportFrom)):
            self.assertIsInstance(node, ast.ImportFrom)
            package, source = node.module.split(".")
            self.assertEqual("coverstore", package)
            self.assertIn(node, TREES[file].body)
            bound = [
                one.name if isinstance(one, (ast.FunctionDef, ast.ClassDef)) else one.targets[0].id
                for one in TREES[source].body if isinstance(one, (ast.FunctionDef, ast.ClassDef, ast.Assign))
            ]
            for alias in node.names:
                self.assertIn(alias.name, bound)
                self.assertIsNone(alias.asname)

    def test_no_circles(self):
        left = {file: {node.module.split(".")[1] for node in self.imports(file)} for file in TREES}
        while left:
            free = [file for file, needed in left.items() if not needed & set(left)]
            self.assertTrue(free, left)
            for file in free:
                del left[file]

    def test_each_import_is_used(self):
        for file in TREES:
            used = [node.id for node in ast.walk(TREES[file]) if isinstance(node, ast.Name)]
            for node in self.imports(file):
                for alias in node.names:
                    self.assertIn(alias.name, used, file)


class NamesTest(unittest.TestCase):

    def test_builtins(self):
        for file, node in walk(ast.Name):
            if hasattr(builtins, node.id):
                self.assertIn(node.id, BUILTINS, file)
                self.assertIsInstance(node.ctx, ast.Load, (file, node.id))

    def test_no_binding_hides_another(self):
        for file, function in walk(ast.FunctionDef):
            body = TREES[file].body
            taken = [alias.name for node in body if isinstance(node, ast.ImportFrom) for alias in node.names]
            taken += [node.name for node in body if isinstance(node, (ast.ClassDef, ast.FunctionDef))]
            for name in bound_names(function):
                self.assertNotIn(name, taken, (file, function.name))
                self.assertFalse(hasattr(builtins, name), (file, function.name, name))
                self.assertNotIn(name, BARRED_NAMES)
                self.assertRegex(name, r"^(_|_?[A-Za-z][A-Za-z0-9_]*)$")

    def test_underscore_is_not_read(self):
        for file, node in walk(ast.Name):
            if node.id == "_":
                self.assertIsInstance(node.ctx, ast.Store, file)

    def test_no_method_is_an_attribute(self):
        methods = plain_methods() + decorated("property") + decorated("classmethod")
        self.assertEqual([], [name for name in stored_attributes() + class_values() if name in methods])

    def test_properties_and_class_methods_are_alone(self):
        for name in decorated("property") + decorated("classmethod"):
            self.assertNotIn(name, plain_methods())
            self.assertNotIn(name, VALUE_METHODS)
        self.assertEqual([], [name for name in decorated("property") if name in decorated("classmethod")])

    def test_methods_and_attributes_have_free_names(self):
        for name in plain_methods() + stored_attributes():
            self.assertNotIn(name, BARRED_NAMES)
            self.assertNotIn(name, ("items", "keys", "values", "args", "format", "decode", "encode", "hex"))

    def test_each_attribute_is_known(self):
        known = set(plain_methods() + decorated("property") + decorated("classmethod") + stored_attributes())
        for file, node in walk(ast.Attribute):
            self.assertTrue(node.attr in known | VALUE_METHODS | set(class_values()) | {"__init__"}, (file, node.attr))


class StatementsTest(unittest.TestCase):

    def test_allowed_statements(self):
        for file, node in walk(ast.stmt):
            self.assertIsInstance(node, STATEMENTS, (file, node.lineno))

    def test_module_level(self):
        for file, tree in TREES.items():
            self.assertIsNotNone(ast.get_docstring(tree))
            for node in tree.body[1:]:
                self.assertIsInstance(node, (ast.ImportFrom, ast.FunctionDef, ast.ClassDef, ast.Assign), file)
            bound = [node.name for node in tree.body if isinstance(node, (ast.FunctionDef, ast.ClassDef))]
            self.assertEqual(len(bound), len(set(bound)))

    def test_expressions(self):
        for file, node in walk((ast.Set, ast.SetComp, ast.Lambda, ast.NamedExpr, ast.Await, ast.Div)):
            self.fail((file, ast.dump(node)))
        for file, node in walk(ast.Constant):
            self.assertNotIsInstance(node.value, (float, complex, bytes), file)
        for file, node in walk(ast.Compare):
            for operator, side in zip(node.ops, node.comparators):
                if isinstance(operator, (ast.Is, ast.IsNot)):
                    self.assertIn(getattr(side, "value", 0), (None,), file)

    def test_generator_expressions_and_powers(self):
        self.assertEqual([], walk(ast.GeneratorExp))
        for file, node in walk(ast.BinOp):
            if isinstance(node.op, ast.Pow):
                self.assertIsInstance(node.right, ast.Constant, file)

    def test_raise_creates_its_error(self):
        for file, node in walk(ast.Raise):
            self.assertIsInstance(node.exc, ast.Call, (file, node.lineno))
            self.assertIsInstance(node.exc.func, ast.Name)

    def test_no_handler_of_python_errors(self):
        for file, node in walk(ast.ExceptHandler):
            for kind in getattr(node.type, "elts", [node.type]):
                self.assertNotIn(kind.id, dir(builtins), file)

    def test_iterators_are_used_at_once(self):
        parents = {
            id(child): node for _, node in walk(ast.AST) for child in ast.iter_child_nodes(node)
        }
        for file, node in walk(ast.Call):
            if isinstance(node.func, ast.Name) and node.func.id in ("zip", "enumerate", "range", "reversed"):
                parent = parents[id(node)]
                fine = isinstance(parent, (ast.For, ast.comprehension))
                fine = fine or isinstance(parent, ast.Call) and parent.func.id in ("list", "tuple", "sorted", "zip")
                self.assertTrue(fine, (file, node.lineno))


if __name__ == "__main__":
    unittest.main()
