"""The rules of LANGUAGE.md that can be seen in single lines, names and numbers."""

import ast
import builtins
import pathlib
import re
import unittest

TOP = pathlib.Path(__file__).resolve().parent.parent
PACKAGE = TOP / "threereckons"

BUILTINS = """
len range enumerate zip min max sum abs sorted reversed int str bool list tuple dict set isinstance ord repr
any all divmod iter next super property staticmethod classmethod
Exception ValueError TypeError KeyError IndexError LookupError ZeroDivisionError ArithmeticError OverflowError
RuntimeError NotImplementedError AttributeError StopIteration NotImplemented
""".split()

BARRED = """
type typing typing_extensions enum Enum IntEnum StrEnum Flag IntFlag Generic Protocol ABC ABCMeta namedtuple
NamedTuple TypedDict TYPE_CHECKING abstractmethod
""".split()

UNUSED_NAMES = """
register mro elements open input version_info with_traceback add_note format format_map attrgetter breakpoint
builtins compile copyright credits delattr dir eval exec exit gc getattr globals hasattr help id importlib license
locals methodcaller os quit setattr vars sys
""".split()

BARRED_NODES = (
    ast.Global, ast.AsyncFunctionDef, ast.AsyncFor, ast.AsyncWith, ast.Await, ast.Import, ast.Div, ast.MatMult,
)


def sources():
    return [(path.name, path.read_bytes()) for path in sorted(PACKAGE.glob("*.py"))]


def trees():
    return [(name, ast.parse(source)) for name, source in sources()]


def nodes(*kinds):
    return [(name, node) for name, tree in trees() for node in ast.walk(tree) if isinstance(node, kinds)]


class Files(unittest.TestCase):
    def test_nothing_else_in_the_folder(self):
        found = [path.name for path in PACKAGE.iterdir() if path.name != "__pycache__"]
        self.assertIn("__init__.py", found)
        self.assertEqual([name for name in found if not re.fullmatch(r"[a-z0-9_]+\.py", name)], [])

    def test_characters(self):
        for name, source in sources():
            self.assertEqual([sign for sign in source if sign != 10 and not 32 <= sign <= 126], [], name)

    def test_sizes(self):
        for name, source in sources():
            lines = source.decode().split("\n")
            self.assertLessEqual(len(lines), 401, name)
            self.assertLessEqual(max(len(line) for line in lines), 120, name)
        for name, node in nodes(ast.FunctionDef):
            self.assertLessEqual(node.end_lineno - node.lineno + 1, 40, (name, node.name))

    def test_words(self):
        for name, source in sources():
            words = re.findall(r"\w+", source.decode())
            self.assertEqual([word for word in words if word in BARRED], [], name)
            self.assertIsNone(re.search("dataclass|overload|contextmanager", source.decode()), name)


class Code(unittest.TestCase):
    def test_statements(self):
        self.assertEqual(nodes(*BARRED_NODES), [])

    def test_imports(self):
        for name, node in nodes(ast.ImportFrom):
            self.assertEqual(node.level, 0, name)
            self.assertRegex(node.module, r"^(threereckons\.[a-z0-9_]+|__future__)$", name)
            self.assertNotIn("*", [each.name for each in node.names], name)
            if node.module != "__future__":
                file = PACKAGE / (node.module.split(".")[1] + ".py")
                self.assertTrue(file.is_file(), (name, node.module))

    def test_builtins(self):
        for name, node in nodes(ast.Name):
            if node.id in dir(builtins):
                self.assertIn(node.id, BUILTINS + ["bytes"], (name, node.lineno))
                self.assertIsInstance(node.ctx, ast.Load, (name, node.lineno))

    def test_names(self):
        bound = [(name, node.id) for name, node in nodes(ast.Name)]
        bound += [(name, node.arg) for name, node in nodes(ast.arg)]
        bound += [(name, node.attr) for name, node in nodes(ast.Attribute)]
        bound += [(name, node.name) for name, node in nodes(ast.FunctionDef, ast.ClassDef)]
        for name, word in bound:
            self.assertNotIn(word, UNUSED_NAMES, name)
            self.assertRegex(word, r"^([A-Za-z][A-Za-z0-9_]*|__[a-z]+__)$", name)
        for name, node in nodes(ast.arg):
            self.assertNotIn(node.arg, dir(builtins), name)

    def test_strings(self):
        for name, node in nodes(ast.Constant):
            if isinstance(node.value, str):
                self.assertNotIn("%", node.value, (name, node.lineno))
            self.assertNotIsInstance(node.value, (float, complex), (name, node.lineno))

    def test_no_name_is_both_method_and_attribute(self):
        methods, attributes = set(), set()
        for name, node in nodes(ast.ClassDef):
            methods |= {row.name for row in node.body if isinstance(row, ast.FunctionDef)}
        for name, node in nodes(ast.Attribute):
            if isinstance(node.ctx, ast.Store):
                attributes.add(node.attr)
        self.assertEqual(sorted(methods & attributes), [])

    def test_module_level(self):
        allowed = (ast.Expr, ast.ImportFrom, ast.FunctionDef, ast.ClassDef, ast.Assign, ast.AnnAssign)
        for name, tree in trees():
            for row in tree.body:
                self.assertIsInstance(row, allowed, (name, row.lineno))
                if isinstance(row, ast.Expr):
                    self.assertIsInstance(row.value, ast.Constant, (name, row.lineno))
                if isinstance(row, ast.Assign):
                    calls = [node for node in ast.walk(row) if isinstance(node, ast.Call)]
                    self.assertEqual(calls, [], (name, row.lineno))


if __name__ == "__main__":
    unittest.main()
