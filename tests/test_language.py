"""The package's files keep to the part of Python that the project allows, as far as a short look can tell."""

import ast
import builtins
import pathlib
import re
import unittest

PACKAGE = pathlib.Path(__file__).resolve().parent.parent / "teamsail"
FILES = sorted(PACKAGE.glob("*.py"))

STATEMENTS = (ast.FunctionDef, ast.ClassDef, ast.Return, ast.Assign, ast.AugAssign, ast.For, ast.While, ast.If,
              ast.Raise, ast.Try, ast.ImportFrom, ast.Expr, ast.Pass, ast.Break, ast.Continue)
NO_EXPRESSIONS = (ast.NamedExpr, ast.SetComp, ast.DictComp, ast.GeneratorExp, ast.Await, ast.Yield, ast.YieldFrom,
                  ast.Starred, ast.Div, ast.MatMult, ast.Set)
BUILT_IN = """len range enumerate zip min max sum abs sorted reversed int str bool list tuple dict set frozenset
isinstance ord repr any all divmod Exception ValueError TypeError KeyError IndexError LookupError ZeroDivisionError
ArithmeticError OverflowError RuntimeError NotImplementedError AttributeError StopIteration""".split()
METHODS = """append clear copy count endswith extend find get index insert isalnum isalpha isdigit islower isspace
isupper items join keys ljust lower lstrip partition pop remove replace reverse rfind rjust rpartition rsplit rstrip
setdefault split splitlines startswith strip update upper values zfill bit_length""".split()
NO_WORDS = """type typing typing_extensions enum Enum IntEnum StrEnum Flag IntFlag Generic Protocol ABC ABCMeta
namedtuple NamedTuple TypedDict TYPE_CHECKING abstractmethod""".split()
NO_PARTS = ("dataclass", "overload", "contextmanager")


def tree_of(path):
    return ast.parse(path.read_text("utf-8"))


def nodes(sort):
    """All nodes of that sort, each with its file."""
    return [(path, node) for path in FILES for node in ast.walk(tree_of(path)) if isinstance(node, sort)]


def bound_names(tree):
    names = [node.id for node in ast.walk(tree) if isinstance(node, ast.Name) and isinstance(node.ctx, ast.Store)]
    names += [node.arg for node in ast.walk(tree) if isinstance(node, ast.arg)]
    names += [node.name for node in ast.walk(tree) if isinstance(node, (ast.FunctionDef, ast.ClassDef))]
    return names


class Language(unittest.TestCase):
    def test_files(self):
        self.assertTrue(FILES)
        for path in PACKAGE.iterdir():
            if path.name != "__pycache__":
                self.assertRegex(path.name, r"^[a-z0-9_]+\.py$")

    def test_sizes_and_signs(self):
        for path in FILES:
            text = path.read_text("utf-8")
            self.assertRegex(text, r"\A[ -~\n]*\Z", path)
            lines = text.split("\n")
            self.assertLessEqual(len(lines), 401, path)
            self.assertLessEqual(max(len(line) for line in lines), 120, path)
        for path, node in nodes(ast.FunctionDef):
            self.assertLessEqual(node.end_lineno - node.lineno + 1, 40, (path, node.name))

    def test_words(self):
        for path in FILES:
            text = path.read_text("utf-8")
            for word in NO_WORDS:
                self.assertIsNone(re.search(r"\b" + word + r"\b", text), (path, word))
            for part in NO_PARTS:
                self.assertNotIn(part, text, path)

    def test_statements_and_expressions(self):
        for path, node in nodes(ast.stmt):
            self.assertIsInstance(node, STATEMENTS, (path, node.lineno))
        self.assertEqual(nodes(NO_EXPRESSIONS), [])
        for path, node in nodes(ast.Assign):
            self.assertEqual(len(node.targets), 1, (path, node.lineno))
        for path, node in nodes((ast.For, ast.While)):
            self.assertEqual(node.orelse, [], (path, node.lineno))
        for path, node in nodes(ast.Constant):
            self.assertIn(type(node.value), (int, str, bool, type(None)), (path, node.lineno))
        for path, node in nodes(ast.ListComp):
            self.assertEqual(len(node.generators), 1, (path, node.lineno))
            self.assertLessEqual(len(node.generators[0].ifs), 1, (path, node.lineno))

    def test_imports(self):
        for path, node in nodes(ast.ImportFrom):
            self.assertEqual(node.level, 0, path)
            self.assertTrue(node.module.startswith("teamsail."), path)
            source = PACKAGE / (node.module.split(".")[1] + ".py")
            tops = [top.name for top in tree_of(source).body if isinstance(top, (ast.FunctionDef, ast.ClassDef))]
            for name in node.names:
                self.assertIn(name.name, tops, path)
                self.assertIsNone(name.asname, path)

    def test_names(self):
        for path in FILES:
            tree = tree_of(path)
            imported = [name.name for node in ast.walk(tree) if isinstance(node, ast.ImportFrom) for name in node.names]
            bound = bound_names(tree)
            for name in bound:
                if name == "__init__":
                    continue
                self.assertRegex(name, r"^[A-Za-z][A-Za-z0-9_]*$", path)
                self.assertFalse(hasattr(builtins, name), (path, name))
                self.assertNotIn(name, imported, path)
            for node in ast.walk(tree):
                if isinstance(node, ast.Name) and node.id not in bound + imported:
                    self.assertIn(node.id, BUILT_IN, (path, node.lineno))

    def test_methods(self):
        for path, node in nodes(ast.Call):
            if isinstance(node.func, ast.Attribute):
                self.assertIn(node.func.attr, METHODS, (path, node.lineno))

    def test_functions(self):
        for path, node in nodes(ast.FunctionDef):
            self.assertEqual(node.decorator_list, [], (path, node.name))
            given = node.args
            self.assertEqual((given.vararg, given.kwarg, given.kwonlyargs, given.posonlyargs), (None, None, [], []))


if __name__ == "__main__":
    unittest.main()
