"""The package keeps to the small part of Python that it's written in, as far as a look at its files can tell."""

import ast
import builtins
import pathlib
import re
import unittest

PACKAGE = pathlib.Path(__file__).resolve().parent.parent / "kinfolds"

NODES = """Module FunctionDef arguments arg ClassDef Return Assign AugAssign For While If Raise Try ExceptHandler
ImportFrom alias Expr Pass Break Continue BoolOp And Or BinOp Add Sub Mult FloorDiv Mod Pow BitAnd BitOr BitXor LShift
RShift UnaryOp Not USub Invert Lambda IfExp Dict List Tuple Set ListComp comprehension Compare Eq NotEq Lt LtE Gt GtE Is
IsNot In NotIn Call Constant JoinedStr FormattedValue Attribute Subscript Slice Name Load Store keyword""".split()

FREE_BUILTINS = """len range enumerate zip min max sum abs sorted reversed int str bool list tuple dict set frozenset
isinstance ord repr any all divmod Exception ValueError TypeError KeyError IndexError LookupError ZeroDivisionError
ArithmeticError OverflowError RuntimeError NotImplementedError AttributeError StopIteration""".split()

FREE_METHODS = """append clear copy count endswith extend find get index insert isalnum isalpha isdigit islower isspace
isupper items join keys ljust lower lstrip partition pop remove replace reverse rfind rjust rpartition rsplit rstrip
setdefault split splitlines startswith strip update upper values zfill bit_length""".split()

BARRED_WORDS = """type typing typing_extensions enum Enum IntEnum StrEnum Flag IntFlag Generic Protocol ABC ABCMeta
namedtuple NamedTuple TypedDict TYPE_CHECKING abstractmethod""".split()

BARRED_NAMES = """register mro elements open input version_info with_traceback add_note attrgetter breakpoint builtins
compile copyright credits delattr dir eval exec exit gc getattr globals hasattr help id importlib license locals
methodcaller os quit setattr super type vars sys""".split()

SPECIAL = ("__init__", "__eq__", "__repr__", "__str__", "__len__")


def package_files():
    return sorted(path for path in PACKAGE.rglob("*") if path.is_file() and "__pycache__" not in path.parts)


def package_trees():
    return [(path.name, ast.parse(path.read_text())) for path in package_files()]


def all_nodes():
    return [(name, node) for name, tree in package_trees() for node in ast.walk(tree)]


def bound_names(node):
    if isinstance(node, ast.arg):
        return [node.arg]
    if isinstance(node, ast.Name) and isinstance(node.ctx, ast.Store):
        return [node.id]
    if isinstance(node, (ast.FunctionDef, ast.ClassDef)):
        return [node.name]
    return []


def top_names(tree):
    names = []
    for node in tree.body:
        if isinstance(node, ast.ImportFrom):
            names += [one.name for one in node.names]
        elif isinstance(node, ast.Assign):
            names.append(node.targets[0].id)
        else:
            names += bound_names(node)
    return names


def called(node):
    """The name or the method that's called, if it is a call."""
    if not isinstance(node, ast.Call):
        return None
    return node.func.id if isinstance(node.func, ast.Name) else node.func.attr


class Language(unittest.TestCase):
    def test_files(self):
        self.assertIn("__init__.py", [path.name for path in package_files()])
        for path in package_files():
            self.assertRegex(path.name, r"\A[a-z_][a-z0-9_]*\.py\Z")
            if path.name != "__init__.py":
                self.assertFalse(hasattr(builtins, path.stem), path)

    def test_signs_and_sizes(self):
        for path in package_files():
            text = path.read_bytes().decode("ascii")
            self.assertRegex(text, r"\A[ -~\n]*\Z")
            lines = text.splitlines()
            self.assertLessEqual(len(lines), 400, path)
            self.assertLessEqual(max(len(line) for line in lines), 120, path)
        for name, node in all_nodes():
            if isinstance(node, ast.FunctionDef):
                self.assertLessEqual(node.end_lineno - node.lineno + 1, 40, (name, node.name))

    def test_words(self):
        for path in package_files():
            text = path.read_text()
            self.assertEqual([word for word in re.findall(r"\w+", text) if word in BARRED_WORDS], [], path)
            self.assertNotRegex(text, "dataclass|overload|contextmanager")

    def test_statements_and_expressions(self):
        for name, node in all_nodes():
            self.assertIn(node.__class__.__name__, NODES, (name, getattr(node, "lineno", 0)))
            if isinstance(node, ast.Assign):
                self.assertEqual(len(node.targets), 1, (name, node.lineno))
                self.assertNotIsInstance(node.targets[0], (ast.Tuple, ast.List), (name, node.lineno))
            if isinstance(node, (ast.For, ast.While)):
                self.assertEqual(node.orelse, [], (name, node.lineno))
            if isinstance(node, ast.Constant):
                self.assertIsInstance(node.value, (int, str, bool, None.__class__), (name, node.lineno))

    def test_functions(self):
        for name, node in all_nodes():
            if isinstance(node, (ast.FunctionDef, ast.ClassDef)):
                self.assertEqual(node.decorator_list, [], (name, node.lineno))
            if isinstance(node, ast.arguments):
                self.assertEqual([node.vararg, node.kwarg, node.kwonlyargs, node.posonlyargs], [None, None, [], []])

    def test_names(self):
        for name, node in all_nodes():
            for bound in bound_names(node):
                if bound not in SPECIAL:
                    self.assertRegex(bound, r"\A[A-Za-z][A-Za-z0-9_]*\Z", name)
                    self.assertFalse(hasattr(builtins, bound), (name, bound))
                    self.assertNotIn(bound, BARRED_NAMES, name)

    def test_names_of_pythons_own(self):
        for name, node in all_nodes():
            if isinstance(node, ast.Name) and hasattr(builtins, node.id):
                self.assertIn(node.id, FREE_BUILTINS, (name, node.lineno))

    def test_methods(self):
        own = [node.name for name, node in all_nodes() if isinstance(node, ast.FunctionDef)]
        for name, node in all_nodes():
            if isinstance(node, ast.Call) and isinstance(node.func, ast.Attribute):
                self.assertIn(node.func.attr, FREE_METHODS + own, (name, node.lineno))

    def test_no_name_is_a_method_and_a_value(self):
        methods = [node.name for name, tree in all_nodes() if isinstance(tree, ast.ClassDef)
                   for node in tree.body if isinstance(node, ast.FunctionDef)]
        stored = [node.attr for name, node in all_nodes()
                  if isinstance(node, ast.Attribute) and isinstance(node.ctx, ast.Store)]
        self.assertEqual([attr for attr in stored if attr in methods], [])
        for plain in (list, dict, str, int, set, bytes):
            self.assertEqual([attr for attr in stored + methods if hasattr(plain, attr) and attr not in SPECIAL], [])

    def test_imports(self):
        drawn = {}
        for name, tree in package_trees():
            places = [node for node in tree.body if isinstance(node, ast.ImportFrom)]
            everywhere = [node for node in ast.walk(tree) if isinstance(node, ast.ImportFrom)]
            self.assertEqual(places, everywhere)
            drawn["kinfolds." + name[:-3]] = [node.module for node in places]
            for node in places:
                self.assertEqual(node.level, 0, name)
                self.assertEqual([one.asname for one in node.names if one.asname], [], name)
        self.assertEqual(drawn["kinfolds.__init__"], [])
        while drawn:
            ready = [file for file in drawn if not any(other in drawn for other in drawn[file])]
            self.assertTrue(ready, "files draw from one another: " + ", ".join(drawn))
            for file in ready:
                drawn.pop(file)

    def test_imported_names_are_defined_there(self):
        trees = dict(package_trees())
        for name, tree in trees.items():
            for node in tree.body:
                if isinstance(node, ast.ImportFrom):
                    self.assertTrue(node.module.startswith("kinfolds."), (name, node.module))
                    home = trees[node.module.split(".")[1] + ".py"]
                    defined = [one for part in home.body for one in bound_names(part)]
                    defined += [part.targets[0].id for part in home.body if isinstance(part, ast.Assign)]
                    for one in node.names:
                        self.assertIn(one.name, defined, name)

    def test_the_top_of_a_module(self):
        for name, tree in package_trees():
            kinds = (ast.FunctionDef, ast.ClassDef, ast.ImportFrom, ast.Assign)
            self.assertEqual([node for node in tree.body[1:] if not isinstance(node, kinds)], [], name)
            self.assertIsNotNone(ast.get_docstring(tree), name)
            self.assertEqual(len(set(top_names(tree))), len(top_names(tree)), name)

    def test_locals_are_not_called_like_what_stands_at_the_top(self):
        for name, tree in package_trees():
            for part in tree.body:
                if isinstance(part, (ast.FunctionDef, ast.ClassDef)):
                    own = [bound for node in ast.walk(part) if not isinstance(node, (ast.FunctionDef, ast.ClassDef))
                           for bound in bound_names(node)]
                    self.assertEqual([bound for bound in own if bound in top_names(tree)], [], (name, part.name))

    def test_values_are_given_through_a_local_name(self):
        for name, node in all_nodes():
            if isinstance(node, ast.Attribute) and isinstance(node.ctx, ast.Store):
                self.assertIsInstance(node.value, ast.Name, (name, node.lineno))
                self.assertTrue(node.value.id.islower(), (name, node.lineno))

    def test_keywords(self):
        free = {"sorted": ("key", "reverse"), "min": ("key", "default"), "max": ("key", "default"), "sum": ("start",),
                "enumerate": ("start",), "zip": ("strict",)}
        for name, node in all_nodes():
            if isinstance(node, ast.Call) and node.keywords:
                self.assertIsInstance(node.func, ast.Name, (name, node.lineno))
                for keyword in node.keywords:
                    self.assertIn(keyword.arg, free.get(node.func.id, ()), (name, node.lineno))

    def test_walked_at_once(self):
        walkers = ("list", "tuple", "dict", "sorted", "sum", "any", "all", "enumerate", "zip", "min", "max")
        for name, tree in package_trees():
            walked = [node.iter for node in ast.walk(tree) if isinstance(node, (ast.For, ast.comprehension))]
            walked += [node.args[0] for node in ast.walk(tree)
                       if isinstance(node, ast.Call) and called(node) in walkers and node.args]
            for node in ast.walk(tree):
                if called(node) in ("zip", "enumerate", "reversed", "range", "items", "keys", "values"):
                    self.assertIn(node, walked, (name, node.lineno))

    def test_sets_are_asked_on_the_spot(self):
        for name, tree in package_trees():
            asked = [part for node in ast.walk(tree) if called(node) in ("len", "sorted") for part in node.args]
            asked += [part for node in ast.walk(tree) if isinstance(node, ast.Compare)
                      for part in [node.left] + node.comparators]
            for node in ast.walk(tree):
                self.assertNotIsInstance(node, ast.Set, name)
                if called(node) in ("set", "frozenset"):
                    self.assertIn(node, asked, (name, node.lineno))

    def test_errors(self):
        own = [node.name for name, node in all_nodes() if isinstance(node, ast.ClassDef) and node.bases]
        for name, node in all_nodes():
            if isinstance(node, ast.ExceptHandler):
                self.assertIn(node.type.id, own, (name, node.lineno))
            if isinstance(node, ast.Raise):
                self.assertIn(called(node.exc), own, (name, node.lineno))
            if isinstance(node, ast.ClassDef) and node.bases:
                self.assertEqual([base.id for base in node.bases], ["Exception"], name)

    def test_is_stands_beside_none_true_and_false_alone(self):
        for name, node in all_nodes():
            if isinstance(node, ast.Compare) and any(isinstance(op, (ast.Is, ast.IsNot)) for op in node.ops):
                self.assertTrue(any(isinstance(part, ast.Constant) for part in [node.left] + node.comparators), name)

    def test_no_lists_or_dicts_within_those_at_the_top(self):
        for name, tree in package_trees():
            for node in tree.body:
                if isinstance(node, ast.Assign) and isinstance(node.value, (ast.List, ast.Dict)):
                    nested = [part for part in ast.walk(node.value) if isinstance(part, (ast.List, ast.Dict))]
                    self.assertEqual(nested, [node.value], (name, node.lineno))


if __name__ == "__main__":
    unittest.main()
