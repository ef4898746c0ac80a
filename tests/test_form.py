"""Holds the package's files to the rules of form that can be read off row by row."""

import ast
import builtins
import re
import unittest
from pathlib import Path

ROOT = Path(__file__).resolve().parent.parent
PACKAGE = ROOT / "jettison"

OWN_NAMES = set(
    "len range enumerate zip min max sum abs sorted reversed int str bool bytes list tuple dict set isinstance ord "
    "repr any all divmod Exception ValueError TypeError KeyError IndexError LookupError ZeroDivisionError "
    "ArithmeticError OverflowError RuntimeError NotImplementedError AttributeError StopIteration".split()
)
PYTHON_METHODS = set(
    "append clear copy count endswith extend find get index insert isalnum isalpha isdigit islower isspace isupper "
    "items join keys ljust lower lstrip partition pop remove replace reverse rfind rjust rpartition rsplit rstrip "
    "setdefault split splitlines startswith strip update upper values zfill bit_length".split()
)
METHODS = {"__init__", "__eq__", "__repr__", "__str__", "__len__"}
BARRED_WORDS = re.compile(
    r"\b(type|typing|typing_extensions|enum|Enum|IntEnum|StrEnum|Flag|IntFlag|Generic|Protocol|ABC|ABCMeta|namedtuple"
    r"|NamedTuple|TypedDict|TYPE_CHECKING|abstractmethod)\b|dataclass|overload|contextmanager"
)
BARRED_NAMES = set(
    "register mro elements open input version_info with_traceback add_note attrgetter breakpoint builtins compile "
    "copyright credits delattr dir eval exec exit gc getattr globals hasattr help id importlib license locals "
    "methodcaller os quit setattr super vars sys format format_map".split()
)
BARRED_NODES = (
    ast.With, ast.Match, ast.Global, ast.Nonlocal, ast.Yield, ast.YieldFrom, ast.AsyncFunctionDef, ast.Await,
    ast.NamedExpr, ast.GeneratorExp, ast.Div, ast.MatMult, ast.Import,
)


def files():
    return sorted(PACKAGE.glob("*.py"))


def names_of(tree):
    """Every name that a file gives to something."""
    for node in ast.walk(tree):
        if isinstance(node, ast.Name) and isinstance(node.ctx, ast.Store):
            yield node.id
        elif isinstance(node, (ast.FunctionDef, ast.ClassDef)):
            yield node.name
        elif isinstance(node, ast.arg):
            yield node.arg
        elif isinstance(node, ast.Attribute):
            yield node.attr


def methods_of(trees):
    """Every method of a class."""
    return {row.name for tree in trees for node in tree.body if isinstance(node, ast.ClassDef)
            for row in node.body if isinstance(row, ast.FunctionDef)}


def values_of(trees):
    """Every value that an object is given."""
    return {node.attr for tree in trees for node in ast.walk(tree)
            if isinstance(node, ast.Attribute) and isinstance(node.ctx, ast.Store)}


def names_at_top(path):
    """Every name that another file may draw from this one."""
    rows = ast.parse(path.read_text(encoding="utf-8")).body
    given = {row.name for row in rows if isinstance(row, (ast.FunctionDef, ast.ClassDef))}
    return given | {row.targets[0].id for row in rows if isinstance(row, ast.Assign)}


class FormTest(unittest.TestCase):
    def each(self):
        for path in files():
            text = path.read_text(encoding="utf-8")
            yield path.name, text, ast.parse(text)

    def test_files(self):
        self.assertIn("__init__.py", [path.name for path in files()])
        for path in PACKAGE.iterdir():
            if path.name != "__pycache__":
                self.assertRegex(path.name, r"\A[a-z_0-9]+\.py\Z")

    def test_signs_and_sizes(self):
        for file, text, tree in self.each():
            self.assertRegex(text, r"\A[ -~\n]*\Z", file)
            rows = text.split("\n")
            self.assertLessEqual(len(rows), 400, file)
            self.assertLessEqual(max(len(row) for row in rows), 120, file)
            for node in ast.walk(tree):
                if isinstance(node, ast.FunctionDef):
                    self.assertLessEqual(node.end_lineno - node.lineno + 1, 40, (file, node.name))

    def test_words_and_names(self):
        for file, text, tree in self.each():
            self.assertIsNone(BARRED_WORDS.search(text), file)
            for name in names_of(tree):
                self.assertNotIn(name, BARRED_NAMES, file)
                self.assertTrue(name in METHODS or re.fullmatch(r"[A-Za-z][A-Za-z0-9_]*", name), (file, name))

    def test_imports(self):
        for file, text, tree in self.each():
            for node in ast.walk(tree):
                if isinstance(node, ast.ImportFrom):
                    self.assertIn(node, tree.body, file)
                    self.assertEqual(node.level, 0, file)
                    self.assertRegex(node.module, r"\Ajettison\.[a-z_]+\Z", file)
                    given = names_at_top(PACKAGE / (node.module.split(".")[1] + ".py"))
                    for alias in node.names:
                        self.assertIn(alias.name, given, file)

    def test_no_two_files_draw_from_one_another(self):
        drawn = {}
        for file, text, tree in self.each():
            drawn[file] = [row.module.split(".")[1] + ".py" for row in tree.body if isinstance(row, ast.ImportFrom)]
        while drawn:
            free = [file for file, others in drawn.items() if not any(other in drawn for other in others)]
            self.assertNotEqual(free, [], drawn)
            for file in free:
                del drawn[file]

    def test_methods_and_values(self):
        trees = [tree for file, text, tree in self.each()]
        methods, values = methods_of(trees), values_of(trees)
        self.assertEqual(methods & values, set())
        for own in (str, int, list, dict, set, bytes, tuple):
            self.assertEqual((methods - METHODS - PYTHON_METHODS) & set(dir(own)), set())
            self.assertEqual(values & set(dir(own)), set())
        for file, text, tree in self.each():
            called = {id(node.func) for node in ast.walk(tree) if isinstance(node, ast.Call)}
            for node in ast.walk(tree):
                if isinstance(node, ast.Attribute):
                    allowed = methods | PYTHON_METHODS if id(node) in called else values
                    self.assertIn(node.attr, allowed, (file, node.lineno))

    def test_classes_hold_methods_alone(self):
        for file, text, tree in self.each():
            for node in ast.walk(tree):
                if isinstance(node, ast.ClassDef):
                    self.assertIn(node, tree.body, file)
                    self.assertLessEqual(len(node.bases), 1, file)
                    names = [row.name for row in node.body if isinstance(row, ast.FunctionDef)]
                    self.assertEqual(len(names), len(set(names)), file)
                    for row in node.body[1:]:
                        self.assertIsInstance(row, ast.FunctionDef, file)

    def test_no_local_is_called_like_a_class_or_an_import(self):
        for file, text, tree in self.each():
            taken = {row.name for row in tree.body if isinstance(row, ast.ClassDef)}
            for row in tree.body:
                if isinstance(row, ast.ImportFrom):
                    taken |= {alias.name for alias in row.names}
            for node in ast.walk(tree):
                if isinstance(node, ast.arg):
                    self.assertNotIn(node.arg, taken, file)
                if isinstance(node, ast.Name) and isinstance(node.ctx, ast.Store):
                    self.assertNotIn(node.id, taken, file)

    def test_statements_and_values(self):
        for file, text, tree in self.each():
            for node in ast.walk(tree):
                where = (file, getattr(node, "lineno", None))
                self.assertNotIsInstance(node, BARRED_NODES, where)
                if isinstance(node, ast.Constant):
                    self.assertNotIsInstance(node.value, (float, complex), where)
                    self.assertFalse(isinstance(node.value, str) and "%" in node.value, where)
                if isinstance(node, (ast.FunctionDef, ast.ClassDef)):
                    self.assertEqual(node.decorator_list, [], where)
                if isinstance(node, ast.BinOp) and isinstance(node.op, ast.Pow):
                    self.assertTrue(isinstance(node.right, ast.Constant) and 0 <= node.right.value <= 64, where)

    def test_the_top_of_a_file(self):
        for file, text, tree in self.each():
            self.assertIsNotNone(ast.get_docstring(tree), file)
            names = []
            for row in tree.body[1:]:
                self.assertIsInstance(row, (ast.ImportFrom, ast.FunctionDef, ast.ClassDef, ast.Assign), file)
                if isinstance(row, ast.ImportFrom):
                    names += [alias.name for alias in row.names]
                    self.assertTrue(all(alias.asname is None for alias in row.names), file)
                else:
                    names.append(row.targets[0].id if isinstance(row, ast.Assign) else row.name)
            self.assertEqual(len(names), len(set(names)), file)

    def test_errors_are_taken_and_raised_by_name(self):
        refusals = names_at_top(PACKAGE / "errors.py")
        for file, text, tree in self.each():
            for node in ast.walk(tree):
                if isinstance(node, ast.ExceptHandler):
                    self.assertIn(node.type.id, refusals, (file, node.lineno))
                if isinstance(node, ast.Raise):
                    self.assertIn(node.exc.func.id, refusals, (file, node.lineno))

    def test_is_stands_beside_none_alone(self):
        for file, text, tree in self.each():
            for node in ast.walk(tree):
                if isinstance(node, ast.Compare) and isinstance(node.ops[0], (ast.Is, ast.IsNot)):
                    self.assertIsNone(node.comparators[0].value, (file, node.lineno))

    def test_texts_in_braces(self):
        for file, text, tree in self.each():
            for node in ast.walk(tree):
                if isinstance(node, ast.FormattedValue):
                    self.assertIsNone(node.format_spec, (file, node.lineno))
                    for within in ast.walk(node.value):
                        self.assertFalse(isinstance(within, ast.Constant) and isinstance(within.value, str), file)

    def test_names_of_python_itself(self):
        for file, text, tree in self.each():
            for node in ast.walk(tree):
                if isinstance(node, ast.arg):
                    self.assertFalse(hasattr(builtins, node.arg), (file, node.arg))
                if isinstance(node, ast.Name) and hasattr(builtins, node.id):
                    self.assertIn(node.id, OWN_NAMES, file)
                    self.assertIsInstance(node.ctx, ast.Load, (file, node.id))


if __name__ == "__main__":
    unittest.main()
