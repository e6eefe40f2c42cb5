"""The rules of the language that can be seen in the package's files one by one; the rest is for a reader."""

import ast
import builtins
import pathlib
import re
import unittest

PACKAGE = pathlib.Path(__file__).resolve().parent.parent / "labelways"

NODES = """
    Module FunctionDef ClassDef arguments arg Return Assign AugAssign For While If Raise Try ExceptHandler
    ImportFrom alias Expr Pass Break Continue BoolOp And Or BinOp UnaryOp Not USub UAdd Invert Lambda IfExp
    Dict List Tuple Set ListComp comprehension Compare Call keyword JoinedStr FormattedValue Constant Attribute
    Subscript Slice Name Load Store Add Sub Mult FloorDiv Mod Pow BitAnd BitOr BitXor LShift RShift
    Eq NotEq Lt LtE Gt GtE Is IsNot In NotIn
""".split()
OWN_NAMES = """
    len range enumerate zip min max sum abs sorted reversed int str bool list tuple dict set frozenset isinstance
    ord repr any all divmod Exception ValueError TypeError KeyError IndexError LookupError ZeroDivisionError
    ArithmeticError OverflowError RuntimeError NotImplementedError AttributeError StopIteration
""".split()
METHODS = """
    append clear copy count endswith extend find get index insert isalnum isalpha isdigit islower isspace isupper
    items join keys ljust lower lstrip partition pop remove replace reverse rfind rjust rpartition rsplit rstrip
    setdefault split splitlines startswith strip update upper values zfill bit_length __init__
""".split()
DUNDERS = ["__init__", "__eq__", "__repr__", "__str__", "__len__"]
WORDS = """
    type typing typing_extensions enum Enum IntEnum StrEnum Flag IntFlag Generic Protocol ABC ABCMeta namedtuple
    NamedTuple TypedDict TYPE_CHECKING abstractmethod
""".split()
WALKED = "range zip enumerate reversed items keys values".split()
WALKERS = "list tuple dict sorted sum any all enumerate zip min max join".split()
NO_FIELDS = """
    items keys values pop update append clear extend insert remove reverse setdefault sort args encode format
""".split()
TAKEN = [name for name in dir(builtins) if not name.startswith("__")]
KEYWORDS = {
    "sorted": ["key", "reverse"], "min": ["key", "default"], "max": ["key", "default"], "sum": ["start"],
    "enumerate": ["start"], "zip": ["strict"],
}
PARTS_OF_WORDS = ["dataclass", "overload", "contextmanager"]


def files():
    return sorted(PACKAGE.glob("*.py"))


def tree_of(path):
    return ast.parse(path.read_text(encoding="utf-8"))


def all_nodes():
    for path in files():
        for node in ast.walk(tree_of(path)):
            yield f"{path.name}:{getattr(node, 'lineno', 0)}", node


def names_at_top(tree):
    found = []
    for node in tree.body:
        if isinstance(node, (ast.FunctionDef, ast.ClassDef)):
            found.append(node.name)
        if isinstance(node, ast.Assign):
            found.extend(target.id for target in node.targets)
    return found


def own_methods():
    found = []
    for where, node in all_nodes():
        if isinstance(node, ast.ClassDef):
            found.extend(part.name for part in node.body if isinstance(part, ast.FunctionDef))
    return found


def called(node):
    return node.func.id if isinstance(node.func, ast.Name) else getattr(node.func, "attr", None)


def bound_names(node):
    if isinstance(node, (ast.FunctionDef, ast.ClassDef)):
        return [node.name]
    if isinstance(node, ast.arg):
        return [node.arg]
    if isinstance(node, ast.Name) and isinstance(node.ctx, ast.Store):
        return [node.id]
    if isinstance(node, ast.Attribute) and isinstance(node.ctx, ast.Store):
        return [node.attr]
    return []


class Files(unittest.TestCase):
    def test_names(self):
        self.assertIn(PACKAGE / "__init__.py", files())
        for path in PACKAGE.iterdir():
            if path.name != "__pycache__":
                self.assertRegex(path.name, r"^(__init__|__main__|[a-z][a-z0-9_]*)\.py$")
                self.assertNotIn(path.stem, TAKEN)

    def test_signs_and_sizes(self):
        for path in files():
            text = path.read_text(encoding="utf-8")
            self.assertRegex(text, r"\A[ -~\n]*\Z", path.name)
            self.assertLessEqual(len(text.splitlines()), 400, path.name)
            self.assertLessEqual(max(len(line) for line in text.splitlines()), 120, path.name)

    def test_words(self):
        for path in files():
            text = path.read_text(encoding="utf-8")
            for word in WORDS:
                self.assertIsNone(re.search(rf"\b{word}\b", text), (path.name, word))
            for word in PARTS_OF_WORDS:
                self.assertNotIn(word, text, path.name)


class Forms(unittest.TestCase):
    def test_nodes(self):
        for where, node in all_nodes():
            self.assertIn(type(node).__name__, NODES, where)

    def test_top_of_a_module(self):
        for path in files():
            tree = tree_of(path)
            self.assertIsNotNone(ast.get_docstring(tree), path.name)
            for node in tree.body[1:]:
                self.assertIsInstance(node, (ast.ImportFrom, ast.FunctionDef, ast.ClassDef, ast.Assign), path.name)
            names = names_at_top(tree)
            self.assertEqual(len(names), len(set(names)), path.name)

    def test_statements(self):
        tops = [ast.dump(tree_of(path).body[0]) for path in files()]
        for where, node in all_nodes():
            if isinstance(node, ast.Expr) and ast.dump(node) not in tops:
                self.assertIsInstance(node.value, ast.Call, where)
            if isinstance(node, ast.Assign):
                self.assertEqual(len(node.targets), 1, where)
            if isinstance(node, (ast.For, ast.While)):
                self.assertEqual(node.orelse, [], where)
            if isinstance(node, ast.Try):
                self.assertEqual(node.finalbody, [], where)

    def test_functions(self):
        for where, node in all_nodes():
            if isinstance(node, ast.FunctionDef):
                self.assertLessEqual(node.end_lineno - node.lineno + 1, 40, where)
                self.assertEqual(node.decorator_list, [], where)
            if isinstance(node, ast.arguments):
                self.assertFalse(node.vararg or node.kwarg or node.kwonlyargs or node.posonlyargs, where)

    def test_classes(self):
        for where, node in all_nodes():
            if isinstance(node, ast.ClassDef):
                self.assertLessEqual(len(node.bases), 1, where)
                self.assertEqual(node.keywords + node.decorator_list, [], where)
                for part in node.body:
                    self.assertIsInstance(part, (ast.FunctionDef, ast.Pass), where)

    def test_expressions(self):
        for where, node in all_nodes():
            if isinstance(node, ast.Constant):
                self.assertIn(type(node.value), (int, str, bool, type(None)), where)
                self.assertNotIn("%", str(node.value), where)
            if isinstance(node, ast.ListComp):
                self.assertEqual(len(node.generators), 1, where)
                self.assertLessEqual(len(node.generators[0].ifs), 1, where)
            if isinstance(node, ast.Compare) and isinstance(node.ops[0], (ast.Is, ast.IsNot)):
                plain = [f"Constant(value={value})" for value in (None, True, False)]
                self.assertIn(ast.dump(node.comparators[0]), plain, where)


    def test_texts_with_names(self):
        for where, node in all_nodes():
            if isinstance(node, ast.FormattedValue):
                self.assertIsInstance(node.value, ast.Name, where)
                self.assertIsNone(node.format_spec, where)
                self.assertIn(node.conversion, (-1, ord("r")), where)

    def test_powers(self):
        for where, node in all_nodes():
            if isinstance(node, ast.BinOp) and isinstance(node.op, ast.Pow):
                self.assertIn(ast.dump(node.right), [f"Constant(value={k})" for k in range(65)], where)

    def test_keywords(self):
        for where, node in all_nodes():
            if isinstance(node, ast.Call):
                for keyword in node.keywords:
                    self.assertIn(keyword.arg, KEYWORDS.get(called(node), []), where)

    def test_errors_raised_and_taken(self):
        refusals = names_at_top(tree_of(PACKAGE / "errors.py"))
        for where, node in all_nodes():
            if isinstance(node, ast.Raise):
                self.assertIsInstance(node.exc, ast.Call, where)
                self.assertIn(called(node.exc), refusals, where)
            if isinstance(node, ast.ExceptHandler):
                self.assertIsInstance(node.type, ast.Name, where)
                self.assertIn(node.type.id, refusals + ["KeyError", "ZeroDivisionError", "StopIteration"], where)

    def test_lists_and_dicts_at_the_top_are_only_read(self):
        for path in files():
            tree = tree_of(path)
            above = {id(child): node for node in ast.walk(tree) for child in ast.iter_child_nodes(node)}
            kept = [node.targets[0].id for node in tree.body
                    if isinstance(node, ast.Assign) and isinstance(node.value, (ast.List, ast.Dict))]
            for node in ast.walk(tree):
                if isinstance(node, ast.Name) and node.id in kept and isinstance(node.ctx, ast.Load):
                    user = above[id(node)]
                    index = isinstance(user, ast.Subscript) and isinstance(user.ctx, ast.Load)
                    get = isinstance(user, ast.Attribute) and user.attr == "get"
                    self.assertTrue(index or get or isinstance(user, ast.Compare), (path.name, node.lineno))


class Names(unittest.TestCase):
    def test_python_s_own(self):
        for where, node in all_nodes():
            if isinstance(node, ast.Name) and node.id in dir(builtins):
                self.assertIn(node.id, OWN_NAMES, where)

    def test_bound(self):
        for where, node in all_nodes():
            for name in bound_names(node):
                if name not in DUNDERS:
                    self.assertRegex(name, r"^[A-Za-z][A-Za-z0-9_]*$", where)
                if not isinstance(node, ast.Attribute):
                    self.assertNotIn(name, TAKEN, where)

    def test_no_local_like_a_class_or_an_import_of_its_file(self):
        for path in files():
            tree = tree_of(path)
            taken = [node.name for node in tree.body if isinstance(node, ast.ClassDef)]
            for node in tree.body:
                if isinstance(node, ast.ImportFrom):
                    taken.extend(alias.name for alias in node.names)
            for part in tree.body:
                for node in ast.walk(part):
                    if isinstance(node, ast.arg) or isinstance(node, ast.Name) and isinstance(node.ctx, ast.Store):
                        self.assertNotIn(bound_names(node)[0], taken, (path.name, node.lineno))

    def test_sets_are_not_kept(self):
        """A set stands straight within sorted or len, or beside in, == or !=."""
        for path in files():
            tree = tree_of(path)
            above = {id(child): node for node in ast.walk(tree) for child in ast.iter_child_nodes(node)}
            for node in ast.walk(tree):
                made = isinstance(node, ast.Call) and isinstance(node.func, ast.Name) and node.func.id == "set"
                if made or isinstance(node, ast.Set):
                    user = above[id(node)]
                    while isinstance(user, ast.BinOp):
                        user = above[id(user)]
                    within = isinstance(user, ast.Call) and getattr(user.func, "id", None) in ("sorted", "len")
                    self.assertTrue(within or isinstance(user, ast.Compare), (path.name, node.lineno))

    def test_walked_on_the_spot(self):
        """A range, a zip and their like stand behind the in of a walk, or as the first thing in what walks them."""
        for path in files():
            tree = tree_of(path)
            above = {id(child): node for node in ast.walk(tree) for child in ast.iter_child_nodes(node)}
            for node in ast.walk(tree):
                if isinstance(node, ast.Call) and called(node) in WALKED:
                    user = above[id(node)]
                    walks = isinstance(user, (ast.For, ast.comprehension)) and user.iter is node
                    first = isinstance(user, ast.Call) and called(user) in WALKERS and user.args[0] is node
                    self.assertTrue(walks or first, (path.name, node.lineno))

    def test_no_name_is_a_method_here_and_a_value_there(self):
        fields = [node.attr for where, node in all_nodes()
                  if isinstance(node, ast.Attribute) and isinstance(node.ctx, ast.Store)]
        self.assertEqual(set(fields) & set(own_methods()), set())
        self.assertEqual(set(fields) & set(NO_FIELDS), set())

    def test_methods(self):
        methods = METHODS + own_methods()
        for where, node in all_nodes():
            if isinstance(node, ast.Call) and isinstance(node.func, ast.Attribute):
                self.assertIn(node.func.attr, methods, where)

    def test_methods_are_called_where_they_stand(self):
        methods = METHODS + own_methods()
        for path in files():
            tree = tree_of(path)
            calls = [id(node.func) for node in ast.walk(tree) if isinstance(node, ast.Call)]
            for node in ast.walk(tree):
                if isinstance(node, ast.Attribute) and isinstance(node.ctx, ast.Load) and node.attr in methods:
                    self.assertIn(id(node), calls, (path.name, node.lineno))


class Imports(unittest.TestCase):
    def test_from_the_file_that_defines_the_name(self):
        for where, node in all_nodes():
            if isinstance(node, ast.ImportFrom):
                self.assertEqual(node.level, 0, where)
                self.assertRegex(node.module, r"^labelways\.[a-z][a-z0-9_]*$", where)
                tops = names_at_top(tree_of(PACKAGE / (node.module.split(".")[1] + ".py")))
                for alias in node.names:
                    self.assertIn(alias.name, tops, where)
                    self.assertIsNone(alias.asname, where)

    def test_no_two_files_draw_from_one_another(self):
        drawn = {}
        for path in files():
            found = [node.module for node in ast.walk(tree_of(path)) if isinstance(node, ast.ImportFrom)]
            drawn[f"labelways.{path.stem}"] = found
        left = dict(drawn)
        while left:
            free = [name for name in left if not any(other in left for other in left[name])]
            self.assertTrue(free, sorted(left))
            left = {name: found for name, found in left.items() if name not in free}


if __name__ == "__main__":
    unittest.main()
