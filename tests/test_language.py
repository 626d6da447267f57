"""The rules of the language that can be seen in the code of the package."""

import ast
import builtins
import pathlib
import re
import unittest

FOLDER = pathlib.Path(__file__).resolve().parent.parent / "saidacross"
FILES = sorted(FOLDER.glob("*.py"))
BUILTINS = """len range enumerate zip min max sum abs sorted reversed int str bool bytes list tuple
dict set frozenset isinstance ord repr any all divmod Exception ValueError TypeError KeyError
IndexError LookupError ZeroDivisionError ArithmeticError OverflowError RuntimeError
NotImplementedError AttributeError StopIteration NotImplemented""".split()
METHODS = """append clear copy count endswith extend find get index insert isalnum isalpha isdigit
islower isspace isupper items join keys ljust lower lstrip partition pop remove replace reverse
rfind rjust rpartition rsplit rstrip setdefault split splitlines startswith strip update upper
values zfill bit_length add discard""".split()
LIBRARY = {
    "heapq": ["heappush", "heappop", "heapify", "heapreplace", "heappushpop"],
    "math": ["gcd", "lcm", "isqrt", "comb", "perm", "factorial"],
    "itertools": ["product", "combinations", "permutations", "chain", "accumulate", "pairwise",
                  "islice", "zip_longest"],
    "collections": ["defaultdict"],
}
NEVER = """register mro elements open input law version_info with_traceback add_note attrgetter
breakpoint builtins compile copyright credits delattr dir eval exec exit gc globals help id
importlib license locals methodcaller os quit super type vars sys typing enum Enum Flag Generic
Protocol ABC namedtuple chr global""".split()
# These words do not stand in strings, either.
NOT_IN_STRINGS = """type typing typing_extensions enum Enum IntEnum StrEnum Flag Generic Protocol ABC
ABCMeta namedtuple NamedTuple TypedDict TYPE_CHECKING abstractmethod dataclass overload
contextmanager""".split()
SPECIAL = ["__init__", "__eq__", "__repr__", "__str__", "__len__"]
UNUSED = (ast.GeneratorExp, ast.Yield, ast.YieldFrom, ast.Global, ast.AsyncFunctionDef, ast.Await,
          ast.JoinedStr, ast.Div, ast.MatMult, ast.AnnAssign, ast.With, ast.NamedExpr, ast.Starred)
AT_ONCE = ["zip", "enumerate", "range", "reversed"]
TAKERS = ["list", "tuple", "dict", "sorted", "sum", "any", "all", "enumerate", "zip", "min", "max",
          "len", "join"]


def tree_of(path):
    return ast.parse(path.read_text())


def nodes(tree, *kinds):
    return [node for node in ast.walk(tree) if isinstance(node, kinds)]


def bound_names(node):
    """The names that are parameters, targets or nested functions in this node."""
    found = [arg.arg for arg in nodes(node, ast.arg)]
    found += [name.id for name in nodes(node, ast.Name) if not isinstance(name.ctx, ast.Load)]
    inner = [part for part in nodes(node, ast.FunctionDef) if part is not node]
    return found + [part.name for part in inner]


def each_file():
    """Each file of the package with its tree."""
    return [(path, tree_of(path)) for path in FILES]


class FilesTest(unittest.TestCase):
    def test_names_and_characters(self):
        inside = [path for path in FOLDER.iterdir() if path.name != "__pycache__"]
        self.assertEqual(sorted(inside), FILES)
        self.assertIn(FOLDER / "__init__.py", FILES)
        self.assertLessEqual(len(FILES), 100)
        for path, _ in each_file():
            self.assertRegex(path.name, r"\A(__init__|[a-z][a-z0-9_]*)\.py\Z")
            text = path.read_bytes().decode("ascii")
            self.assertRegex(text, r"\A[ -~\n]*\Z")
            self.assertNotRegex(text, "_wall")

    def test_sizes(self):
        for path, tree in each_file():
            lines = path.read_text().splitlines()
            self.assertLessEqual(len(lines), 399)
            self.assertLessEqual(max([len(line) for line in lines]), 120)
            for node in nodes(tree, ast.FunctionDef):
                self.assertLessEqual(node.end_lineno - node.lineno + 1, 40, node.name)

    def test_each_file_and_function_says_what_it_is(self):
        for _, tree in each_file():
            self.assertTrue(ast.get_docstring(tree))
            for node in nodes(tree, ast.ClassDef):
                self.assertTrue(ast.get_docstring(node), node.name)

    def test_imports(self):
        uses = {}
        for path, tree in each_file():
            uses[path.stem] = []
            self.assertEqual(nodes(tree, ast.Import), [])
            for node in nodes(tree, ast.ImportFrom):
                self.assertIn(node, tree.body)
                names = [alias.name for alias in node.names]
                self.assertEqual([alias.asname for alias in node.names], [None] * len(names))
                self.assertEqual(node.level, 0)
                if node.module in LIBRARY:
                    self.assertLessEqual(set(names), set(LIBRARY[node.module]))
                else:
                    package, file = node.module.split(".")
                    self.assertEqual(package, "saidacross")
                    other = tree_of(FOLDER / (file + ".py"))
                    defined = [part.name for part in other.body
                               if isinstance(part, (ast.FunctionDef, ast.ClassDef))]
                    defined += [part.targets[0].id for part in other.body
                                if isinstance(part, ast.Assign)]
                    self.assertLessEqual(set(names), set(defined))
                    uses[path.stem].append(file)
        while uses:
            free = [file for file in uses if not set(uses[file]) & set(uses)]
            self.assertTrue(free, "files import one another")
            uses = {file: uses[file] for file in uses if file not in free}

    def test_all_that_is_imported_or_defined_is_used(self):
        for path, tree in each_file():
            text = path.read_text()
            for node in nodes(tree, ast.ImportFrom):
                for alias in node.names:
                    self.assertGreater(len(re.findall(rf"\b{alias.name}\b", text)), 1, alias.name)
            for node in tree.body:
                if isinstance(node, ast.FunctionDef) and node.name.startswith("_"):
                    self.assertGreater(len(re.findall(rf"\b{node.name}\b", text)), 1, node.name)


class CodeTest(unittest.TestCase):
    def test_module_level(self):
        for _, tree in each_file():
            bound = []
            for at, node in enumerate(tree.body):
                if isinstance(node, ast.Assign):
                    self.assertEqual(len(node.targets), 1)
                    self.assertIsInstance(node.targets[0], ast.Name)
                    bound.append(node.targets[0].id)
                elif isinstance(node, ast.ImportFrom):
                    bound += [alias.name for alias in node.names]
                elif isinstance(node, (ast.FunctionDef, ast.ClassDef)):
                    bound.append(node.name)
                else:
                    self.assertEqual(at, 0)
                    self.assertIsInstance(node, ast.Expr)
            self.assertEqual(len(bound), len(set(bound)))

    def test_what_is_not_used_at_all(self):
        for _, tree in each_file():
            self.assertEqual([ast.dump(node) for node in nodes(tree, *UNUSED)], [])
            for node in nodes(tree, ast.FunctionDef, ast.ClassDef):
                self.assertEqual(node.decorator_list, [])
            for node in nodes(tree, ast.Constant):
                self.assertNotIsInstance(node.value, (float, complex, bytes))

    def test_names(self):
        # Where examples were run, there is a builtin `_`, too.
        every = [name for name in dir(builtins) if name != "_"]
        for path, tree in each_file():
            top = [node for node in tree.body if isinstance(node, (ast.FunctionDef, ast.ClassDef))]
            taken = [alias.name for node in nodes(tree, ast.ImportFrom) for alias in node.names]
            taken += [node.name for node in top if isinstance(node, ast.ClassDef)]
            for node in top:
                self.assertNotIn(node.name, every)
                for name in bound_names(node):
                    self.assertNotIn(name, taken)
                    self.assertNotIn(name, every)
            for node in nodes(tree, ast.Name):
                self.assertNotIn(node.id, NEVER)
                if node.id in every:
                    self.assertIn(node.id, BUILTINS)
                if node.id == "_":
                    self.assertNotIsInstance(node.ctx, ast.Load)
                self.assertRegex(node.id, r"\A(_|_?[A-Za-z][A-Za-z0-9_]*)\Z")
            for node in nodes(tree, ast.FunctionDef):
                if node.name.startswith("__"):
                    self.assertIn(node.name, SPECIAL)

    def test_words_that_do_not_occur(self):
        for _, tree in each_file():
            docs = [node.body[0].value for node in nodes(tree, ast.Module, ast.FunctionDef,
                                                         ast.ClassDef) if ast.get_docstring(node)]
            for node in nodes(tree, ast.Constant):
                if isinstance(node.value, str) and node not in docs:
                    self.assertEqual(set(re.findall(r"\w+", node.value)) & set(NOT_IN_STRINGS), set())
                    self.assertNotIn("%", node.value)
            for node in nodes(tree, ast.Attribute):
                self.assertNotIn(node.attr, NEVER)
                self.assertNotRegex(node.attr, r"\A__(?!init__)")

    def test_methods(self):
        own = [part.name for path in FILES for node in nodes(tree_of(path), ast.ClassDef)
               for part in node.body if isinstance(part, ast.FunctionDef)]
        for _, tree in each_file():
            for node in nodes(tree, ast.Call):
                if isinstance(node.func, ast.Attribute):
                    self.assertIn(node.func.attr, METHODS + own)
                self.assertEqual([k.arg for k in node.keywords if k.arg not in ("key", "default")],
                                 [])
                self.assertNotIsInstance(node.func, (ast.Call, ast.Subscript, ast.Constant))

    def test_attributes_are_assigned(self):
        for _, tree in each_file():
            for node in nodes(tree, ast.ClassDef):
                methods = [part.name for part in node.body if isinstance(part, ast.FunctionDef)]
                own = [part.attr for part in nodes(node, ast.Attribute)
                       if isinstance(part.ctx, ast.Store)]
                self.assertEqual(set(own) & set(methods), set())

    def test_is_and_powers(self):
        for _, tree in each_file():
            for node in nodes(tree, ast.Compare):
                for sign, right in zip(node.ops, node.comparators):
                    if isinstance(sign, (ast.Is, ast.IsNot)):
                        self.assertIsInstance(right, ast.Constant)
                        self.assertIn(right.value, (None, True, False))
            for node in nodes(tree, ast.BinOp):
                if isinstance(node.op, ast.Pow):
                    self.assertIsInstance(node.right, ast.Constant)
                    self.assertIn(node.right.value, range(65))

    def test_iterated_at_once(self):
        for _, tree in each_file():
            fine = [node.iter for node in nodes(tree, ast.For, ast.comprehension)]
            for node in nodes(tree, ast.Call):
                name = getattr(node.func, "id", getattr(node.func, "attr", None))
                if name in TAKERS and node.args:
                    fine.append(node.args[0])
            for node in nodes(tree, ast.Call):
                name = getattr(node.func, "id", getattr(node.func, "attr", None))
                if name in AT_ONCE + ["items", "keys", "values"]:
                    self.assertIn(node, fine)

    def test_sets_are_sorted_or_counted(self):
        for _, tree in each_file():
            fine = [node.args[0] for node in nodes(tree, ast.Call)
                    if getattr(node.func, "id", None) in ("sorted", "len")]
            for node in nodes(tree, ast.Set, ast.SetComp, ast.Call):
                if not isinstance(node, ast.Call) or getattr(node.func, "id", None) == "set":
                    self.assertIn(node, fine)

    def test_loops_change_nothing_that_they_go_over(self):
        for _, tree in each_file():
            for node in nodes(tree, ast.For):
                over = {name.id for name in nodes(node.iter, ast.Name)}
                for part in node.body:
                    for call in nodes(part, ast.Call):
                        if isinstance(call.func, ast.Attribute) and call.func.attr in (
                                "append", "extend", "insert", "pop", "remove", "clear", "update"):
                            self.assertNotIn(getattr(call.func.value, "id", None), over)
                    for item in nodes(part, ast.Subscript):
                        if not isinstance(item.ctx, ast.Load):
                            self.assertNotIn(getattr(item.value, "id", None), over)

    def test_lambdas(self):
        for _, tree in each_file():
            lines = [node.lineno for node in nodes(tree, ast.Lambda)]
            self.assertEqual(len(lines), len(set(lines)))


if __name__ == "__main__":
    unittest.main()
