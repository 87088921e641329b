"""The rules of LANGUAGE.md that can be seen in single lines, names and numbers."""

import ast
import builtins
import pathlib
import re
import unittest

TOP = pathlib.Path(__file__).resolve().parent.parent
PACKAGE = TOP / "threereckons"

BUILTINS = """
len range enumerate zip min max sum abs sorted reversed int str bool list tuple dict set isinstance ord repr
any all divmod iter next super property staticmethod classmethod
Exception ValueError TypeError KeyError IndexError LookupError ZeroDivisionError ArithmeticError OverflowError
RuntimeError NotImplementedError AttributeError StopIteration NotImplemented
""".split()

BARRED = """
type typing typing_extensions enum Enum IntEnum StrEnum Flag IntFlag Generic Protocol ABC ABCMeta namedtuple
NamedTuple TypedDict TYPE_CHECKING abstractmethod
""".split()

UNUSED_NAMES = """
register mro elements open input version_info with_traceback add_note format format_map attrgetter breakpoint
builtins compile copyright credits delattr dir eval exec exit gc getattr globals hasattr help id importlib license
locals methodcaller os quit setattr vars sys
""".split()

BARRED_NODES = (
    ast.Global, ast.AsyncFunctionDef, ast.AsyncFor, ast.AsyncWith, ast.Await, ast.Import, ast.Div, ast.MatMult,
)

# Of L25; sort isn't, as Grammar has __eq__ and __len__.
METHODS = """
append clear copy count endswith extend find get index insert isalnum isalpha isdigit islower isspace isupper items
join keys ljust lower lstrip partition pop remove replace reverse rfind rjust rpartition rsplit rstrip setdefault split
splitlines startswith strip update upper values zfill bit_length
""".split()

DOUBLES = ["__init__", "__eq__", "__repr__", "__str__", "__len__", "__enter__", "__exit__", "__call__", "__iter__"]


def sources():
    return [(path.name, path.read_bytes()) for path in sorted(PACKAGE.glob("*.py"))]


def trees():
    return [(name, ast.parse(source)) for name, source in sources()]


def nodes(*kinds):
    return [(name, node) for name, tree in trees() for node in ast.walk(tree) if isinstance(node, kinds)]


class Files(unittest.TestCase):
    def test_nothing_else_in_the_folder(self):
        found = [path.name for path in PACKAGE.iterdir() if path.name != "__pycache__"]
        self.assertIn("__init__.py", found)
        self.assertEqual([name for name in found if not re.fullmatch(r"[a-z0-9_]+\.py", name)], [])

    def test_characters(self):
        for name, source in sources():
            self.assertEqual([sign for sign in source if sign != 10 and not 32 <= sign <= 126], [], name)

    def test_sizes(self):
        for name, source in sources():
            lines = source.decode().split("\n")
            self.assertLessEqual(len(lines), 401, name)
            self.assertLessEqual(max(len(line) for line in lines), 120, name)
        for name, node in nodes(ast.FunctionDef):
            self.assertLessEqual(node.end_lineno - node.lineno + 1, 40, (name, node.name))

    def test_words(self):
        for name, source in sources():
            words = re.findall(r"\w+", source.decode())
            self.assertEqual([word for word in words if word in BARRED], [], name)
            self.assertIsNone(re.search("dataclass|overload|contextmanager", source.decode()), name)


class Code(unittest.TestCase):
    def test_statements(self):
        self.assertEqual(nodes(*BARRED_NODES), [])

    def test_imports(self):
        for name, node in nodes(ast.ImportFrom):
            self.assertEqual(node.level, 0, name)
            self.assertRegex(node.module, r"^(threereckons\.[a-z0-9_]+|__future__)$", name)
            self.assertNotIn("*", [each.name for each in node.names], name)
            if node.module != "__future__":
                file = PACKAGE / (node.module.split(".")[1] + ".py")
                self.assertTrue(file.is_file(), (name, node.module))

    def test_builtins(self):
        for name, node in nodes(ast.Name):
            if node.id in dir(builtins):
                self.assertIn(node.id, BUILTINS + ["bytes"], (name, node.lineno))
                self.assertIsInstance(node.ctx, ast.Load, (name, node.lineno))

    def test_names(self):
        bound = [(name, node.id) for name, node in nodes(ast.Name)]
        bound += [(name, node.arg) for name, node in nodes(ast.arg)]
        bound += [(name, node.attr) for name, node in nodes(ast.Attribute)]
        bound += [(name, node.name) for name, node in nodes(ast.FunctionDef, ast.ClassDef)]
        for name, word in bound:
            self.assertNotIn(word, UNUSED_NAMES, name)
            self.assertRegex(word, r"^([A-Za-z][A-Za-z0-9_]*|__[a-z]+__)$", name)
        for name, node in nodes(ast.arg):
            self.assertNotIn(node.arg, dir(builtins), name)

    def test_strings(self):
        for name, node in nodes(ast.Constant):
            if isinstance(node.value, str):
                self.assertNotIn("%", node.value, (name, node.lineno))
            self.assertNotIsInstance(node.value, (float, complex), (name, node.lineno))

    def test_no_name_is_both_method_and_attribute(self):
        methods, attributes = set(), set()
        for name, node in nodes(ast.ClassDef):
            methods |= {row.name for row in node.body if isinstance(row, ast.FunctionDef)}
        for name, node in nodes(ast.Attribute):
            if isinstance(node.ctx, ast.Store):
                attributes.add(node.attr)
        self.assertEqual(sorted(methods & attributes), [])

    def test_attributes(self):
        """Each that is read is a method of L25, or an own method or attribute."""
        own = set(METHODS + DOUBLES)
        for name, node in nodes(ast.ClassDef):
            own |= {row.name for row in node.body if isinstance(row, ast.FunctionDef)}
        own |= {node.attr for name, node in nodes(ast.Attribute) if isinstance(node.ctx, ast.Store)}
        for name, node in nodes(ast.Attribute):
            self.assertIn(node.attr, own, (name, node.lineno))

    def test_methods_are_called_where_they_stand(self):
        methods = set(METHODS)
        for name, node in nodes(ast.ClassDef):
            methods |= {row.name for row in node.body if isinstance(row, ast.FunctionDef)}
        for name, tree in trees():
            called = [node.func for node in ast.walk(tree) if isinstance(node, ast.Call)]
            for node in ast.walk(tree):
                if isinstance(node, ast.Attribute) and node.attr in methods:
                    self.assertIn(node, called, (name, node.lineno))

    def test_double_underscores(self):
        for name, node in nodes(ast.ClassDef):
            for row in node.body:
                if isinstance(row, ast.FunctionDef) and row.name.startswith("__"):
                    self.assertIn(row.name, DOUBLES, name)
                    if row.name in ("__eq__", "__repr__", "__str__", "__len__"):
                        self.assertIsInstance(row.body[-1], ast.Return, name)
                        barred = (ast.Assign, ast.AugAssign, ast.AnnAssign, ast.Delete, ast.NamedExpr)
                        self.assertEqual([each for each in ast.walk(row) if isinstance(each, barred)], [], name)

    def test_no_generators(self):
        """Narrower than L7 and L23, which bar them where a class has __eq__ in most places."""
        self.assertEqual(nodes(ast.GeneratorExp, ast.Yield, ast.YieldFrom), [])

    def test_is(self):
        for name, node in nodes(ast.Compare):
            for op, side in zip(node.ops, node.comparators):
                if isinstance(op, (ast.Is, ast.IsNot)):
                    self.assertIsInstance(side, ast.Constant, (name, node.lineno))
                    self.assertIn(side.value, (None, True, False), (name, node.lineno))

    def test_sets(self):
        """Narrower than L24: sets are written only in sorted(..) and len(..), or behind in."""
        for name, tree in trees():
            allowed = []
            for node in ast.walk(tree):
                if isinstance(node, ast.Call) and isinstance(node.func, ast.Name) and node.func.id in ("sorted", "len"):
                    allowed += node.args
                if isinstance(node, ast.Compare) and isinstance(node.ops[0], (ast.In, ast.NotIn)):
                    allowed += node.comparators
            for node in ast.walk(tree):
                made = isinstance(node, ast.Call) and isinstance(node.func, ast.Name) and node.func.id == "set"
                if made or isinstance(node, (ast.Set, ast.SetComp)):
                    self.assertIn(node, allowed, (name, node.lineno))

    def test_errors(self):
        errors = {node.name for name, node in nodes(ast.ClassDef) if name == "errors.py"}
        for name, node in nodes(ast.Raise):
            if node.exc is not None:
                self.assertIsInstance(node.exc, ast.Call, (name, node.lineno))
                self.assertIn(node.exc.func.id, errors, (name, node.lineno))
        for name, node in nodes(ast.ExceptHandler):
            self.assertIn(node.type.id, errors, (name, node.lineno))

    def test_finally(self):
        """Narrower than L6: assignments, -= of a number, append of what is simple, if of is None."""
        allowed = (
            ast.Assign, ast.AugAssign, ast.Expr, ast.If, ast.Compare, ast.BoolOp, ast.And, ast.Is, ast.IsNot, ast.Constant, ast.Name,
            ast.Attribute, ast.Tuple, ast.Load, ast.Store, ast.Sub, ast.Call,
        )
        for name, node in nodes(ast.Try):
            for row in node.finalbody:
                for each in ast.walk(row):
                    self.assertIsInstance(each, allowed, (name, row.lineno))
                    if isinstance(each, ast.Call):
                        self.assertEqual(each.func.attr, "append", (name, row.lineno))

    def test_locals(self):
        for name, tree in trees():
            taken = set(dir(builtins))
            for node in tree.body:
                if isinstance(node, ast.ImportFrom):
                    taken |= {each.asname or each.name for each in node.names}
                if isinstance(node, ast.ClassDef):
                    taken.add(node.name)
            for node in ast.walk(tree):
                if isinstance(node, ast.arg):
                    self.assertNotIn(node.arg, taken, (name, node.lineno))
                if isinstance(node, ast.Name) and isinstance(node.ctx, ast.Store):
                    self.assertNotIn(node.id, taken, (name, node.lineno))

    def test_imports_name_the_file_and_are_used(self):
        defined = {}
        for name, tree in trees():
            found = {row.name for row in tree.body if isinstance(row, (ast.FunctionDef, ast.ClassDef))}
            found |= {row.targets[0].id for row in tree.body if isinstance(row, ast.Assign)}
            defined[name] = found
        for name, tree in trees():
            used = {node.id for node in ast.walk(tree) if isinstance(node, ast.Name)}
            for node in ast.walk(tree):
                if isinstance(node, ast.ImportFrom) and node.module != "__future__":
                    for each in node.names:
                        self.assertIn(each.name, defined[node.module.split(".")[1] + ".py"], name)
                        self.assertIn(each.name, used, name)

    def test_no_rings_of_imports(self):
        above = {}
        for name, tree in trees():
            found = [node.module.split(".")[1] + ".py" for node in tree.body if isinstance(node, ast.ImportFrom)]
            above[name] = set(found)
        for step in above:
            for name in above:
                above[name] = above[name].union(*[above[other] for other in above[name]])
        self.assertEqual([name for name in above if name in above[name]], [])

    def test_module_level(self):
        allowed = (ast.Expr, ast.ImportFrom, ast.FunctionDef, ast.ClassDef, ast.Assign, ast.AnnAssign)
        for name, tree in trees():
            for row in tree.body:
                self.assertIsInstance(row, allowed, (name, row.lineno))
                if isinstance(row, ast.Expr):
                    self.assertIsInstance(row.value, ast.Constant, (name, row.lineno))
                if isinstance(row, ast.Assign):
                    calls = [node for node in ast.walk(row) if isinstance(node, ast.Call)]
                    self.assertEqual(calls, [], (name, row.lineno))


if __name__ == "__main__":
    unittest.main()
