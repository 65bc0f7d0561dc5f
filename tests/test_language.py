"""The rules of the language subset that a look at the code's tree can judge."""

import ast
import builtins
import pathlib
import re
import unittest

FOLDER = pathlib.Path(__file__).parent.parent / "sevenninths"
FILES = sorted(path for path in FOLDER.rglob("*") if "__pycache__" not in path.parts)
LIBRARY = {"heapq": {"heappush", "heappop", "heapify", "heapreplace", "heappushpop"},
           "math": {"gcd", "lcm", "isqrt", "comb", "perm", "factorial"},
           "itertools": {"product", "combinations", "permutations", "chain", "accumulate", "pairwise", "islice",
                         "zip_longest"},
           "collections": {"defaultdict", "deque"}}
BUILTINS = set("len range enumerate zip min max sum abs sorted reversed int str bool bytes list tuple dict set "
               "isinstance ord repr any all divmod Exception ValueError TypeError KeyError IndexError LookupError "
               "NotImplemented property classmethod staticmethod super".split())
BARRED = set("register mro elements open input law version_info with_traceback add_note attrgetter breakpoint "
             "compile copyright credits delattr dir eval exec exit gc globals help id importlib license locals "
             "methodcaller os quit type vars sys".split())
SPECIAL = {"__init__", "__eq__", "__repr__", "__str__", "__len__", "__add__", "__radd__", "__sub__", "__rsub__",
           "__mul__", "__rmul__", "__len__"}
METHODS = set("append clear copy count endswith extend find get index insert isalnum isalpha isdigit islower isspace "
              "isupper items join keys ljust lower lstrip partition pop remove replace reverse rfind rjust "
              "rpartition rsplit rstrip setdefault split splitlines startswith strip update upper values zfill "
              "bit_length add discard".split())
WORDS = re.compile(r"\b(type|typing|enum|Enum|Generic|Protocol|ABC|namedtuple|NamedTuple|TypedDict|_wall)\b")


def trees():
    return [(path.name, ast.parse(path.read_text())) for path in FILES]


def nodes(*kinds):
    return [(name, node) for name, tree in trees() for node in ast.walk(tree) if isinstance(node, kinds)]


class LanguageTest(unittest.TestCase):
    def none_of(self, *kinds):
        self.assertEqual([(name, node.lineno) for name, node in nodes(*kinds)], [])

    def test_files(self):
        self.assertIn("__init__.py", [path.name for path in FILES])
        for path in FILES:
            self.assertTrue(re.fullmatch(r"[a-z_0-9]+\.py", path.name), path.name)
            text = path.read_text()
            self.assertLessEqual(len(text.splitlines()), 399)
            self.assertTrue(all(len(line) <= 120 for line in text.split("\n")), path.name)
            self.assertTrue(all(sign == "\n" or " " <= sign <= "~" for sign in text), path.name)
            self.assertIsNone(WORDS.search(text), path.name)

    def test_functions_are_short(self):
        for name, node in nodes(ast.FunctionDef):
            self.assertLessEqual(node.end_lineno - node.lineno + 1, 40, (name, node.name))

    def test_imports(self):
        self.none_of(ast.Import)
        for name, node in nodes(ast.ImportFrom):
            self.assertEqual(node.level, 0)
            self.assertTrue(all(alias.asname is None for alias in node.names))
            if node.module in LIBRARY:
                self.assertLessEqual({alias.name for alias in node.names}, LIBRARY[node.module])
            else:
                self.assertTrue(node.module.startswith("sevenninths."), (name, node.module))
                source = FOLDER / f"{node.module.split('.')[1]}.py"
                bound = {getattr(row, "name", None) or row.targets[0].id
                         for row in ast.parse(source.read_text()).body
                         if isinstance(row, (ast.FunctionDef, ast.ClassDef, ast.Assign))}
                self.assertLessEqual({alias.name for alias in node.names}, bound, name)

    def test_imports_in_no_circle(self):
        reached = {name[:-3]: {node.module.split(".")[1] for node in tree.body
                               if isinstance(node, ast.ImportFrom) and "." in node.module} for name, tree in trees()}
        while any(reached.values()):
            done = {name for name, wanted in reached.items() if not wanted}
            self.assertTrue(done)
            reached = {name: wanted - done for name, wanted in reached.items() if wanted}

    def test_module_level(self):
        for name, tree in trees():
            for row in tree.body:
                plain = isinstance(row, ast.Expr) and isinstance(row.value, ast.Constant)
                self.assertTrue(plain or isinstance(row, (ast.ImportFrom, ast.FunctionDef, ast.ClassDef, ast.Assign)))

    def test_statements_and_expressions(self):
        self.none_of(ast.Global, ast.AsyncFunctionDef, ast.Await, ast.Yield, ast.YieldFrom, ast.GeneratorExp)
        for name, node in nodes(ast.Constant):
            self.assertNotIsInstance(node.value, (float, complex))
            if isinstance(node.value, str):
                self.assertNotIn("%", node.value)
        for name, node in nodes(ast.BinOp, ast.AugAssign):
            self.assertNotIsInstance(node.op, ast.Div, (name, node.lineno))
            if isinstance(node.op, ast.Pow):
                self.assertTrue(isinstance(node, ast.BinOp) and isinstance(node.right, ast.Constant), name)

    def test_is_stands_beside_none(self):
        for name, node in nodes(ast.Compare):
            for sign, other in zip(node.ops, node.comparators):
                if isinstance(sign, (ast.Is, ast.IsNot)):
                    self.assertIsInstance(other, ast.Constant, (name, node.lineno))

    def test_names(self):
        for name, tree in trees():
            bound = [node.id for node in ast.walk(tree) if isinstance(node, ast.Name) and
                     not isinstance(node.ctx, ast.Load)]
            bound += [node.arg for node in ast.walk(tree) if isinstance(node, ast.arg)]
            bound += [node.name for node in tree.body if isinstance(node, (ast.FunctionDef, ast.ClassDef))]
            for word in bound:
                self.assertFalse(hasattr(builtins, word), (name, word))
                self.assertFalse(word.startswith("__"), (name, word))
                self.assertNotIn(word, BARRED, name)

    def test_locals_have_no_name_of_an_import_or_class(self):
        for name, tree in trees():
            top = {alias.name for row in tree.body if isinstance(row, ast.ImportFrom) for alias in row.names}
            top |= {row.name for row in tree.body if isinstance(row, ast.ClassDef)}
            bound = {node.id for node in ast.walk(tree) if isinstance(node, ast.Name) and
                     isinstance(node.ctx, ast.Store)}
            bound |= {node.arg for node in ast.walk(tree) if isinstance(node, ast.arg)}
            self.assertEqual(top & bound, set(), name)

    def test_builtins_that_are_used(self):
        for name, node in nodes(ast.Name):
            if hasattr(builtins, node.id):
                self.assertIn(node.id, BUILTINS, (name, node.lineno))

    def test_double_underscores(self):
        for name, node in nodes(ast.FunctionDef):
            if node.name.startswith("__"):
                self.assertIn(node.name, SPECIAL, name)
        for name, node in nodes(ast.Attribute):
            self.assertFalse(node.attr.startswith("__"), (name, node.lineno))

    def test_methods_that_are_called(self):
        own = {node.name for _, kind in nodes(ast.ClassDef) for node in kind.body if isinstance(node, ast.FunctionDef)}
        for name, node in nodes(ast.Call):
            if isinstance(node.func, ast.Attribute):
                self.assertIn(node.func.attr, METHODS | own, (name, node.lineno))

    def test_raise_makes_its_error_on_the_spot(self):
        for name, node in nodes(ast.Raise):
            self.assertTrue(node.exc is None or isinstance(node.exc, ast.Call), (name, node.lineno))

    def test_handlers_name_own_errors(self):
        for name, node in nodes(ast.ExceptHandler):
            self.assertIsInstance(node.type, ast.Name)
            self.assertFalse(hasattr(builtins, node.type.id) and node.type.id != "KeyError", (name, node.lineno))
