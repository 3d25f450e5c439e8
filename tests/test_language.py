"""Looks at the package's files for what ../shared/LANGUAGE.md bars and a simple look can find."""

import ast
import builtins
import os
import re
import unittest

FOLDER = os.path.join(os.path.dirname(os.path.dirname(os.path.abspath(__file__))), "mannerports")

NODES = set("""
Module Expr Constant ImportFrom alias FunctionDef ClassDef arguments arg Assign AugAssign AnnAssign If While For Return
Break Continue Pass Raise Assert Delete Try ExceptHandler Call keyword Name Attribute Subscript Slice Tuple List Dict
Set ListComp DictComp SetComp comprehension BinOp UnaryOp BoolOp Compare IfExp Lambda JoinedStr FormattedValue Starred
Load Store Del Add Sub Mult FloorDiv Mod Pow BitAnd BitOr BitXor LShift RShift USub Not And Or Invert
Eq NotEq Lt LtE Gt GtE In NotIn Is IsNot
""".split())

BUILTINS = set("""
len range enumerate zip min max sum abs sorted reversed int str bool bytes list tuple dict set frozenset isinstance ord
repr any all divmod Exception ValueError TypeError KeyError IndexError LookupError ZeroDivisionError ArithmeticError
OverflowError RuntimeError NotImplementedError AttributeError StopIteration
""".split())

METHODS = set("""
append clear copy count endswith extend find get index insert isalnum isalpha isdigit islower isspace isupper items join
keys ljust lower lstrip partition pop remove replace reverse rfind rjust rpartition rsplit rstrip setdefault split
splitlines startswith strip update upper values zfill bit_length sort add discard
""".split())

BARRED_WORDS = re.compile(
    r"\b(type|typing|typing_extensions|enum|Enum|IntEnum|StrEnum|Flag|IntFlag|Generic|Protocol|ABC|ABCMeta|namedtuple"
    r"|NamedTuple|TypedDict|TYPE_CHECKING|abstractmethod)\b|dataclass|overload|contextmanager"
)
BARRED_NAMES = {"register", "mro", "elements", "open", "input", "version_info", "with_traceback", "add_note", "format"}


def package_files():
    names = sorted(name for name in os.listdir(FOLDER) if name != "__pycache__")
    return {name: read(name) for name in names}


def read(name):
    with open(os.path.join(FOLDER, name), encoding="utf-8") as file:
        return file.read()


def bound_names(tree):
    for node in ast.walk(tree):
        if isinstance(node, (ast.FunctionDef, ast.ClassDef)):
            yield node.name
        elif isinstance(node, ast.arg):
            yield node.arg
        elif isinstance(node, ast.Name) and isinstance(node.ctx, ast.Store):
            yield node.id
        elif isinstance(node, ast.ExceptHandler) and node.name:
            yield node.name


def called_name(node):
    """The name of the function that a node calls, or None."""
    return node.func.id if isinstance(node, ast.Call) and isinstance(node.func, ast.Name) else None


class LanguageTest(unittest.TestCase):
    @classmethod
    def setUpClass(cls):
        cls.files = package_files()
        cls.trees = {name: ast.parse(text) for name, text in cls.files.items() if name.endswith(".py")}

    def walked(self):
        for name, tree in self.trees.items():
            for node in ast.walk(tree):
                yield f"{name}:{getattr(node, 'lineno', 0)}", node

    def test_files(self):
        for name in self.files:
            self.assertRegex(name, r"^([a-z][a-z0-9_]*|__init__|__main__)\.py$")

    def test_signs_and_sizes(self):
        for name, text in self.files.items():
            lines = text.split("\n")
            self.assertLessEqual(len(lines), 400, name)
            for number, line in enumerate(lines, 1):
                self.assertLessEqual(len(line), 120, f"{name}:{number}")
                self.assertRegex(line, r"^[ -~]*$", f"{name}:{number}")
                self.assertIsNone(BARRED_WORDS.search(line), f"{name}:{number}")

    def test_statements_and_expressions(self):
        for place, node in self.walked():
            self.assertIn(type(node).__name__, NODES, place)
            if isinstance(node, ast.FunctionDef):
                self.assertLessEqual(node.end_lineno - node.lineno + 1, 40, place)
                self.assertEqual((node.decorator_list, node.args.vararg, node.args.kwarg), ([], None, None), place)
                self.assertEqual(node.args.posonlyargs, [], place)
            if isinstance(node, ast.ClassDef):
                self.assertLessEqual(len(node.bases), 1, place)
            if isinstance(node, (ast.For, ast.While)):
                self.assertEqual(node.orelse, [], place)
            if isinstance(node, ast.Constant):
                self.assertNotIsInstance(node.value, float, place)
                self.assertNotIn("%", str(node.value), place)

    def test_imports(self):
        for name, tree in self.trees.items():
            for node in ast.walk(tree):
                if isinstance(node, ast.ImportFrom):
                    self.assertTrue(node.level == 0 and node.module.startswith("mannerports."), name)
                    source = self.trees[node.module.split(".")[1] + ".py"]
                    defined = [each for statement in source.body for each in bound_names(statement)]
                    for alias in node.names:
                        self.assertIn(alias.name, defined, name)

    def test_module_level(self):
        kinds = (ast.Expr, ast.ImportFrom, ast.FunctionDef, ast.ClassDef, ast.Assign)
        for name, tree in self.trees.items():
            for statement in tree.body:
                self.assertIsInstance(statement, kinds, name)
                if isinstance(statement, ast.Expr):
                    self.assertIsInstance(statement.value, ast.Constant, name)

    def test_each_name_is_bound_once_at_module_level(self):
        for name, tree in self.trees.items():
            bound = []
            for statement in tree.body:
                if isinstance(statement, ast.ImportFrom):
                    bound += [alias.asname or alias.name for alias in statement.names]
                elif isinstance(statement, (ast.FunctionDef, ast.ClassDef)):
                    bound.append(statement.name)
                elif isinstance(statement, ast.Assign):
                    self.assertEqual(len(statement.targets), 1, name)
                    bound.append(statement.targets[0].id)
            self.assertEqual(sorted(set(bound)), sorted(bound), name)

    def test_no_two_lambdas_on_one_line(self):
        places = [place for place, node in self.walked() if isinstance(node, ast.Lambda)]
        self.assertEqual(sorted(set(places)), sorted(places))

    def test_what_is_kept_at_module_level_is_only_read(self):
        kept = {target.id for tree in self.trees.values() for statement in tree.body if isinstance(statement, ast.Assign)
                for target in statement.targets if isinstance(statement.value, (ast.List, ast.Dict))}
        for place, node, parent in self.with_parents():
            if isinstance(node, ast.Name) and node.id in kept and isinstance(node.ctx, ast.Load):
                read = isinstance(parent, ast.Subscript) and isinstance(parent.ctx, ast.Load) or isinstance(parent, ast.Compare)
                self.assertTrue(read, place)

    def test_names(self):
        for name, tree in self.trees.items():
            known = set(bound_names(tree)) | BUILTINS
            known |= {alias.name for node in ast.walk(tree) if isinstance(node, ast.ImportFrom) for alias in node.names}
            for bound in bound_names(tree):
                if bound != "__init__":
                    self.assertFalse(bound.startswith("_") or bound in BARRED_NAMES or bound in dir(builtins), bound)
            for node in ast.walk(tree):
                if isinstance(node, ast.Name):
                    self.assertIn(node.id, known, name)

    def test_local_names_are_no_imports_and_no_classes(self):
        for name, tree in self.trees.items():
            taken = [alias.name for node in ast.walk(tree) if isinstance(node, ast.ImportFrom) for alias in node.names]
            taken += [node.name for node in tree.body if isinstance(node, ast.ClassDef)]
            self.assertEqual(len(set(taken)), len(taken), name)
            for node in ast.walk(tree):
                if isinstance(node, ast.FunctionDef):
                    inside = [bound for each in [node.args] + node.body for bound in bound_names(each)]
                    self.assertEqual(set(inside) & set(taken), set(), f"{name}:{node.lineno}")

    def test_no_two_files_import_from_each_other(self):
        above = {}
        for name, tree in self.trees.items():
            modules = [node.module for node in ast.walk(tree) if isinstance(node, ast.ImportFrom)]
            above[name] = {module.split(".")[1] + ".py" for module in modules}
        while above:
            free = [name for name in above if not above[name] & set(above)]
            self.assertTrue(free, sorted(above))
            for name in free:
                del above[name]

    def with_parents(self):
        """Pairs of a node's place and the node, with what stands around it."""
        for name, tree in self.trees.items():
            for parent in ast.walk(tree):
                for child in ast.iter_child_nodes(parent):
                    yield f"{name}:{getattr(child, 'lineno', 0)}", child, parent

    def test_sets_are_not_stored(self):
        def is_set(node):
            return isinstance(node, (ast.Set, ast.SetComp)) or called_name(node) in ("set", "frozenset")

        def are_sets(node):
            joined = isinstance(node, ast.BinOp) and isinstance(node.op, (ast.Sub, ast.BitAnd, ast.BitOr, ast.BitXor))
            return are_sets(node.left) and are_sets(node.right) if joined else is_set(node)
        around = {id(node): parent for place, node, parent in self.with_parents()}
        for place, node, parent in self.with_parents():
            if is_set(node):
                self.assertNotEqual(called_name(node), "frozenset", place)
                while are_sets(parent):
                    parent = around[id(parent)]
                right = called_name(parent) in ("sorted", "len") and not parent.keywords and are_sets(parent.args[0])
                self.assertTrue(right or isinstance(parent, ast.Compare), place)

    def test_what_is_iterated_at_once(self):
        ends = ("list", "tuple", "dict", "sorted", "sum", "any", "all", "enumerate", "zip", "bytes")
        for place, node, parent in self.with_parents():
            method = node.func.attr if isinstance(node, ast.Call) and isinstance(node.func, ast.Attribute) else None
            if called_name(node) in ("zip", "enumerate", "reversed", "range") or method in ("items", "keys", "values"):
                looped = isinstance(parent, (ast.For, ast.comprehension)) and parent.iter is node
                alone = called_name(parent) in ("min", "max") and len(parent.args) == 1
                self.assertTrue(looped or alone or called_name(parent) in ends, place)

    def test_methods_are_called_where_they_stand(self):
        methods = set()
        for place, node in self.walked():
            if isinstance(node, ast.ClassDef):
                methods |= {each.name for each in node.body if isinstance(each, ast.FunctionDef)}
        for place, node, parent in self.with_parents():
            if isinstance(node, ast.Attribute) and node.attr in methods | METHODS:
                self.assertTrue(isinstance(parent, ast.Call) and parent.func is node, place)

    def test_is_with_none_and_truths_alone(self):
        for place, node in self.walked():
            if isinstance(node, ast.Compare) and any(isinstance(op, (ast.Is, ast.IsNot)) for op in node.ops):
                for each in node.comparators:
                    self.assertTrue(isinstance(each, ast.Constant) and each.value in (None, True, False), place)

    def test_methods_and_attributes(self):
        methods, attributes = set(), set()
        for place, node in self.walked():
            if isinstance(node, ast.ClassDef):
                methods |= {each.name for each in node.body if isinstance(each, ast.FunctionDef)}
            if isinstance(node, ast.Attribute) and isinstance(node.ctx, ast.Store):
                attributes.add(node.attr)
        self.assertEqual(methods & attributes, set())
        for place, node in self.walked():
            if isinstance(node, ast.Call) and isinstance(node.func, ast.Attribute):
                self.assertIn(node.func.attr, methods | METHODS, place)
            elif isinstance(node, ast.Attribute):
                self.assertIn(node.attr, methods | METHODS | attributes, place)


if __name__ == "__main__":
    unittest.main()
