"""What can be told at a glance about the rules of LANGUAGE.md; the number of the rule stands in each name."""

import ast
import builtins
import pathlib
import re
import unittest

PACKAGE = pathlib.Path(__file__).resolve().parent.parent / "outermost"

BUILTINS = set(
    "len range enumerate zip min max sum abs sorted reversed int str bool bytes list tuple dict set frozenset "
    "isinstance ord repr any all divmod iter next super Exception ValueError TypeError KeyError IndexError "
    "LookupError ZeroDivisionError ArithmeticError OverflowError RuntimeError NotImplementedError AttributeError "
    "StopIteration NotImplemented property staticmethod classmethod object".split()
)

BARRED_WORDS = re.compile(
    r"\b(type|typing|typing_extensions|enum|Enum|IntEnum|StrEnum|Flag|IntFlag|Generic|Protocol|ABC|ABCMeta|"
    r"namedtuple|NamedTuple|TypedDict|TYPE_CHECKING|abstractmethod)\b|dataclass|overload|contextmanager"
)

METHODS = set(
    "init eq repr str len enter exit call iter lt le gt ge ne neg pos invert abs bool contains getitem setitem".split()
)
SIGNS = "add sub mul floordiv mod pow and or xor lshift rshift".split()
METHODS |= {prefix + sign for sign in SIGNS for prefix in ("", "r", "i")} - {"rpow"}

STATEMENTS = (
    ast.Assign, ast.AugAssign, ast.AnnAssign, ast.If, ast.While, ast.For, ast.Return, ast.Break, ast.Continue,
    ast.Pass, ast.Raise, ast.Assert, ast.Delete, ast.Nonlocal, ast.Match, ast.With, ast.Try, ast.Expr,
    ast.FunctionDef, ast.ClassDef, ast.ImportFrom,
)


def files():
    """The files of the package with their texts and trees."""
    paths = sorted(PACKAGE.rglob("*.py"))
    return [(path, path.read_text(encoding="utf-8"), ast.parse(path.read_text(encoding="utf-8"))) for path in paths]


def nodes(kind):
    """All nodes of one kind, each with its file and line."""
    return [(f"{path.name}:{getattr(node, 'lineno', 0)}", node)
            for path, text, tree in files() for node in ast.walk(tree) if isinstance(node, kind)]


def bound_names(tree):
    """The names that a tree binds, attributes left aside."""
    for node in ast.walk(tree):
        if isinstance(node, (ast.FunctionDef, ast.ClassDef)):
            yield node.name
        elif isinstance(node, ast.arg):
            yield node.arg
        elif isinstance(node, ast.Name) and not isinstance(node.ctx, ast.Load):
            yield node.id


def imported_files():
    """For each file the files of the package that it imports from."""
    return {path.stem: {node.module.split(".")[1] for node in ast.walk(tree) if isinstance(node, ast.ImportFrom)}
            for path, text, tree in files()}


class LanguageTest(unittest.TestCase):
    def test_l1_l14_files(self):
        for path in PACKAGE.rglob("*"):
            if "__pycache__" not in path.parts:
                self.assertRegex(path.name, r"^[a-z0-9_]+\.py$")

    def test_l2_l16_imports(self):
        self.assertEqual(nodes(ast.Import), [])
        for place, node in nodes(ast.ImportFrom):
            self.assertTrue(node.level == 0 and node.module.startswith("outermost."), place)
            self.assertTrue(all(alias.name != "*" for alias in node.names), place)
        for path, text, tree in files():
            kinds = [isinstance(node, ast.ImportFrom) for node in tree.body[1:]]
            self.assertEqual(kinds, sorted(kinds, reverse=True), path.name)

    def test_l16_no_two_files_import_from_each_other(self):
        left = imported_files()
        while left:
            last = [name for name, others in left.items() if not others & set(left)]
            self.assertTrue(last, left)
            for name in last:
                del left[name]

    def test_l16_imports_name_the_file_that_defines_the_name(self):
        defined = {}
        for path, text, tree in files():
            targets = [node.targets[0].id for node in tree.body if isinstance(node, ast.Assign)]
            defs = [node.name for node in tree.body if isinstance(node, (ast.FunctionDef, ast.ClassDef))]
            self.assertEqual(len(targets + defs), len(set(targets + defs)), path.name)
            defined["outermost." + path.stem] = set(targets + defs)
        for place, node in nodes(ast.ImportFrom):
            for alias in node.names:
                self.assertIn(alias.name, defined[node.module], place)

    def test_l15_no_local_name_is_that_of_a_class_or_an_import(self):
        for path, text, tree in files():
            taken = {alias.name for node in tree.body if isinstance(node, ast.ImportFrom) for alias in node.names}
            taken |= {node.name for node in tree.body if isinstance(node, ast.ClassDef)}
            for node in ast.walk(tree):
                if isinstance(node, (ast.FunctionDef, ast.Lambda)):
                    names = {name for name in bound_names(node) if name != getattr(node, "name", None)}
                    self.assertEqual(names & taken, set(), f"{path.name}:{node.lineno}")

    def test_l3_module_level(self):
        allowed = (ast.ImportFrom, ast.FunctionDef, ast.ClassDef, ast.Assign)
        for path, text, tree in files():
            self.assertIsInstance(tree.body[0].value.value, str, path.name)
            for node in tree.body[1:]:
                self.assertIsInstance(node, allowed, f"{path.name}:{node.lineno}")

    def test_l5_double_underscore_methods(self):
        for place, node in nodes(ast.FunctionDef):
            if node.name.startswith("__"):
                self.assertIn(node.name[2:-2], METHODS, place)

    def test_l6_statements(self):
        for place, node in nodes(ast.stmt):
            self.assertIsInstance(node, STATEMENTS, place)

    def test_l8_l15_builtins(self):
        for path, text, tree in files():
            for node in ast.walk(tree):
                if isinstance(node, ast.Name) and hasattr(builtins, node.id):
                    self.assertIn(node.id, BUILTINS, f"{path.name}:{node.lineno}")
            methods = {method.name for owner in ast.walk(tree) if isinstance(owner, ast.ClassDef)
                       for method in owner.body if isinstance(method, ast.FunctionDef)}
            for name in bound_names(tree):
                self.assertTrue(not hasattr(builtins, name) or name in methods, (path.name, name))

    def test_l10_size(self):
        for path, text, tree in files():
            self.assertLessEqual(len(text.split("\n")), 399, path.name)
            self.assertLessEqual(max(len(line) for line in text.split("\n")), 120, path.name)
        for place, node in nodes(ast.FunctionDef):
            self.assertLessEqual(node.end_lineno - node.lineno + 1, 40, place)

    def test_l12_plain_names(self):
        for path, text, tree in files():
            for name in bound_names(tree):
                is_method = name.startswith("__") and name[2:-2] in METHODS
                self.assertTrue(is_method or not name.startswith("_"), (path.name, name))

    def test_l14_characters(self):
        for path, text, tree in files():
            self.assertRegex(text, r"\A[\n -~]*\Z", path.name)

    def test_l17_barred_words(self):
        for path, text, tree in files():
            self.assertIsNone(BARRED_WORDS.search(text), path.name)

    def test_l18_no_name_is_both_method_and_attribute(self):
        methods = {node.name for place, owner in nodes(ast.ClassDef)
                   for node in owner.body if isinstance(node, ast.FunctionDef)}
        attributes = {node.attr for place, node in nodes(ast.Attribute) if isinstance(node.ctx, ast.Store)}
        setters = {node.value.id for place, node in nodes(ast.Attribute)
                   if node.attr == "setter" and isinstance(node.value, ast.Name)}
        self.assertEqual((methods - setters) & attributes, set())

    def test_l20_is(self):
        for place, node in nodes(ast.Compare):
            for sign, side in zip(node.ops, node.comparators):
                if isinstance(sign, (ast.Is, ast.IsNot)):
                    self.assertTrue(isinstance(side, ast.Constant) and side.value in (None, True, False), place)

    def test_l7_no_generator_expressions(self):
        # They are let in some places only; lists are let in all of them.
        self.assertEqual([place for place, node in nodes(ast.GeneratorExp)], [])

    def test_l21_no_annotations(self):
        self.assertEqual([place for place, node in nodes(ast.AnnAssign)], [])
        self.assertEqual([place for place, node in nodes(ast.arg) if node.annotation], [])
        self.assertEqual([place for place, node in nodes(ast.FunctionDef) if node.returns], [])

    def test_l24_no_sets(self):
        self.assertEqual([place for place, node in nodes((ast.Set, ast.SetComp))], [])

    def test_l7_l27_numbers_and_strings(self):
        self.assertEqual([place for place, node in nodes(ast.Div)], [])
        for place, node in nodes(ast.Constant):
            self.assertNotIsInstance(node.value, float, place)
            if isinstance(node.value, str):
                self.assertNotIn("%", node.value, place)


if __name__ == "__main__":
    unittest.main()
