"""The form of the package's own files: the rules of LANGUAGE.md that a short check can see."""

import ast
import builtins
import os
import re
import unittest

PACKAGE = os.path.join(os.path.dirname(os.path.dirname(os.path.abspath(__file__))), "outputedits")

FORMS = (
    "Module Expr Constant ImportFrom alias FunctionDef arguments arg Return Assign AugAssign Name Load Store "
    "Attribute Subscript Slice Call keyword List Tuple Dict ListComp comprehension IfExp BoolOp And Or UnaryOp Not "
    "USub BinOp Add Sub Mult FloorDiv Mod Compare Eq NotEq Lt LtE Gt GtE In NotIn Is IsNot If While For Break "
    "Continue Pass Raise Try ExceptHandler ClassDef JoinedStr FormattedValue Lambda"
).split()

BUILT_IN = (
    "len range enumerate zip min max sum abs sorted reversed int str bool list tuple dict set isinstance ord repr "
    "any all divmod Exception ValueError KeyError IndexError LookupError"
).split()

NOT_ALLOWED = [name for name in dir(builtins) if name not in BUILT_IN]

METHODS = (
    "append clear copy count endswith extend find get index insert isalnum isalpha isdigit islower isspace isupper "
    "items join keys ljust lower lstrip partition pop remove replace reverse rfind rjust rpartition rsplit rstrip "
    "setdefault split splitlines startswith strip update upper values zfill bit_length"
).split()

WORDS = re.compile(
    r"\b(type|typing|typing_extensions|enum|Enum|IntEnum|StrEnum|Flag|IntFlag|Generic|Protocol|ABC|ABCMeta|namedtuple|"
    r"NamedTuple|TypedDict|TYPE_CHECKING|abstractmethod|register|mro|elements|open|input|version_info)\b|"
    r"dataclass|overload|contextmanager")


def sources():
    for name in sorted(os.listdir(PACKAGE)):
        if name != "__pycache__":
            with open(os.path.join(PACKAGE, name), encoding="utf-8", newline="") as file:
                yield name, file.read()


def own_names(trees):
    """The methods and values of the package's classes."""
    found = set()
    for tree in trees:
        for node in ast.walk(tree):
            if isinstance(node, ast.ClassDef):
                found.update(child.name for child in node.body if isinstance(child, ast.FunctionDef))
            if isinstance(node, ast.Attribute) and isinstance(node.ctx, ast.Store):
                found.add(node.attr)
    return found


class Form(unittest.TestCase):
    def setUp(self):
        self.sources = dict(sources())
        self.trees = {name: ast.parse(source) for name, source in self.sources.items()}

    def nodes(self, *kinds):
        for name, tree in self.trees.items():
            for node in ast.walk(tree):
                if isinstance(node, kinds):
                    yield name, node

    def test_files(self):
        self.assertIn("__init__.py", self.sources)
        for name, source in self.sources.items():
            self.assertRegex(name, r"\A[a-z_0-9]+\.py\Z")
            self.assertRegex(source, r"\A[\n -~]*\Z", name)
            self.assertLess(source.count("\n"), 400, name)
            self.assertLessEqual(max(len(line) for line in source.split("\n")), 120, name)
            self.assertIsNone(WORDS.search(source), name)

    def test_forms(self):
        for name, node in self.nodes(ast.AST):
            self.assertIn(node.__class__.__name__, FORMS, (name, getattr(node, "lineno", 0)))

    def test_functions(self):
        for name, node in self.nodes(ast.FunctionDef):
            self.assertLessEqual(node.end_lineno - node.lineno + 1, 40, (name, node.name))
            self.assertEqual(node.decorator_list, [], (name, node.name))
            self.assertIsNone(node.args.vararg or node.args.kwarg or node.returns, (name, node.name))

    def test_assignments_and_loops(self):
        for name, node in self.nodes(ast.Assign):
            self.assertEqual(len(node.targets), 1, (name, node.lineno))
        for name, node in self.nodes(ast.For, ast.While):
            self.assertEqual(node.orelse, [], (name, node.lineno))

    def test_imports(self):
        modules = ["outputedits." + name[:-3] for name in self.sources]
        for name, node in self.nodes(ast.ImportFrom):
            self.assertEqual((node.level, node.module in modules), (0, True), (name, node.lineno))
            tops = [top.name for top in self.trees[node.module.split(".")[1] + ".py"].body
                    if isinstance(top, (ast.FunctionDef, ast.ClassDef))]
            tops += [top.targets[0].id for top in self.trees[node.module.split(".")[1] + ".py"].body
                     if isinstance(top, ast.Assign)]
            for alias in node.names:
                self.assertIn(alias.name, tops, name)
                self.assertIsNone(alias.asname, name)

    def test_names(self):
        for name, node in self.nodes(ast.Name):
            self.assertRegex(node.id, r"\A[A-Za-z][A-Za-z0-9_]*\Z", name)
            self.assertNotIn(node.id, NOT_ALLOWED, (name, node.lineno))
            if isinstance(node.ctx, ast.Store):
                self.assertNotIn(node.id, BUILT_IN, (name, node.lineno))
        for name, node in self.nodes(ast.arg):
            self.assertNotIn(node.arg, BUILT_IN + NOT_ALLOWED, (name, node.lineno))

    def test_methods(self):
        own = own_names(self.trees.values())
        for name, node in self.nodes(ast.Attribute):
            self.assertIn(node.attr, own.union(METHODS), (name, node.lineno))

    def test_locals_are_not_called_like_classes_or_imports(self):
        for name, tree in self.trees.items():
            taken = {top.name for top in tree.body if isinstance(top, ast.ClassDef)}
            taken.update(alias.name for top in tree.body if isinstance(top, ast.ImportFrom) for alias in top.names)
            for node in ast.walk(tree):
                if isinstance(node, ast.Name) and isinstance(node.ctx, ast.Store):
                    self.assertNotIn(node.id, taken, (name, node.lineno))
                if isinstance(node, ast.arg):
                    self.assertNotIn(node.arg, taken, (name, node.lineno))

    def test_no_name_is_a_method_and_a_value(self):
        values = {node.attr for name, node in self.nodes(ast.Attribute) if isinstance(node.ctx, ast.Store)}
        for name, node in self.nodes(ast.ClassDef):
            for child in node.body:
                if isinstance(child, ast.FunctionDef):
                    self.assertNotIn(child.name, values, (name, child.lineno))

    def test_the_interface(self):
        for name, tree in self.trees.items():
            defs = [top.name for top in tree.body if isinstance(top, (ast.FunctionDef, ast.ClassDef))]
            self.assertEqual(defs.count("answers"), 1 if name == "desk.py" else 0, name)


if __name__ == "__main__":
    unittest.main()
