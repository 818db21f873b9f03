"""The rules of the language that can be seen in the text of the package."""

import ast
import builtins
import pathlib
import unittest

from fittingdoors import errors

FOLDER = pathlib.Path(__file__).resolve().parent.parent / "fittingdoors"
BUILTINS = set("len range enumerate zip min max sum abs sorted reversed int str bool bytes list tuple dict set isinstance "
               "ord repr any all divmod super Exception ValueError TypeError KeyError IndexError map".split())
LIBRARY = {"math": {"gcd", "lcm", "isqrt", "comb", "perm", "factorial"}, "heapq": {"heappush", "heappop"},
           "itertools": {"product", "combinations", "permutations"}}
METHODS = set("append clear copy count endswith extend find get index insert isalnum isalpha isdigit islower isspace "
              "isupper items join keys ljust lower lstrip partition pop remove replace reverse rfind rjust rpartition "
              "rsplit rstrip setdefault split splitlines startswith strip update upper values zfill bit_length add "
              "discard".split())
BARRED = set("register mro elements open input law version_info with_traceback add_note attrgetter breakpoint compile "
             "copyright credits delattr dir eval exec exit gc globals help id importlib license locals methodcaller os "
             "quit setattr getattr hasattr type vars sys typing enum dataclass overload contextmanager".split())
ITERATED = {"zip", "enumerate", "reversed", "map"}


def trees():
    return {path.stem: ast.parse(path.read_text()) for path in sorted(FOLDER.glob("*.py"))}


def functions(tree):
    return [node for node in ast.walk(tree) if isinstance(node, ast.FunctionDef)]


def bound_names(function):
    """The parameters and local variables of a function."""
    told = [arg.arg for arg in [*function.args.args, *function.args.kwonlyargs, *function.args.posonlyargs]]
    return told + [node.id for node in ast.walk(function) if isinstance(node, ast.Name)
                   and isinstance(node.ctx, ast.Store)]


class LanguageTests(unittest.TestCase):
    def test_files(self):
        paths = [path for path in FOLDER.iterdir() if path.name != "__pycache__"]
        self.assertLessEqual(len(paths), 100)
        self.assertTrue((FOLDER / "__init__.py").exists())
        for path in paths:
            self.assertRegex(path.name, r"^[a-z_][a-z0-9_]*\.py$")
            data = path.read_bytes()
            self.assertTrue(all(byte == 10 or 32 <= byte <= 126 for byte in data), path.name)
            lines = data.decode().split("\n")
            self.assertLessEqual(len(lines), 399)
            self.assertLessEqual(max(map(len, lines)), 120)
            self.assertNotIn("_wall", data.decode())

    def test_functions_are_short(self):
        for name, tree in trees().items():
            for node in functions(tree):
                self.assertLessEqual(node.end_lineno - node.lineno + 1, 40, (name, node.name))
                self.assertEqual(node.decorator_list, [])
                self.assertFalse([inner for inner in ast.walk(node) if isinstance(inner, ast.FunctionDef)][1:])

    def test_imports(self):
        edges = {}
        defined = {name: {node.name for node in tree.body if isinstance(node, (ast.FunctionDef, ast.ClassDef))}
                   | {node.targets[0].id for node in tree.body if isinstance(node, ast.Assign)}
                   for name, tree in trees().items()}
        for name, tree in trees().items():
            edges[name] = set()
            for node in ast.walk(tree):
                self.assertNotIsInstance(node, ast.Import)
                if isinstance(node, ast.ImportFrom):
                    self.assertIn(node, tree.body)
                    words = {alias.name for alias in node.names}
                    self.assertFalse([alias for alias in node.names if alias.asname])
                    if node.module in LIBRARY:
                        self.assertLessEqual(words, LIBRARY[node.module])
                    else:
                        other = node.module.removeprefix("fittingdoors.")
                        self.assertLessEqual(words, defined[other], (name, other))
                        edges[name].add(other)
                    text = ast.unparse(ast.Module(tree.body[1:], []))
                    for word in words:
                        self.assertGreater(text.count(word), 1, (name, word))
        done = set()
        while len(done) < len(edges):
            ready = [name for name in edges if name not in done and edges[name] <= done]
            self.assertTrue(ready, "files import each other in a round")
            done.update(ready)

    def test_module_level(self):
        for name, tree in trees().items():
            bound = []
            for at, node in enumerate(tree.body):
                if isinstance(node, ast.Expr):
                    self.assertEqual(at, 0)
                elif isinstance(node, ast.Assign):
                    ast.literal_eval(node.value)
                    bound.append(node.targets[0].id)
                elif isinstance(node, ast.ImportFrom):
                    bound.extend(alias.name for alias in node.names)
                else:
                    self.assertIsInstance(node, (ast.FunctionDef, ast.ClassDef), name)
                    bound.append(node.name)
            self.assertEqual(len(bound), len(set(bound)), name)

    def test_names(self):
        for name, tree in trees().items():
            taken = {node.name for node in tree.body if isinstance(node, ast.ClassDef)}
            taken |= {alias.name for node in tree.body if isinstance(node, ast.ImportFrom) for alias in node.names}
            for node in functions(tree):
                for word in bound_names(node):
                    self.assertNotIn(word, taken, (name, node.name))
                    self.assertFalse(hasattr(builtins, word), (name, node.name, word))
                    self.assertNotIn(word, BARRED, (name, node.name))
            for node in ast.walk(tree):
                if isinstance(node, ast.Name) and hasattr(builtins, node.id):
                    self.assertIn(node.id, BUILTINS, name)
                if isinstance(node, ast.Attribute):
                    self.assertNotIn(node.attr, BARRED, name)
                if isinstance(node, (ast.FunctionDef, ast.ClassDef)):
                    self.assertNotIn(node.name, BARRED)
                    self.assertTrue(node.name == "__init__" or not node.name.startswith("__"))

    def test_statements_and_expressions(self):
        barred = (ast.Global, ast.AsyncFunctionDef, ast.Await, ast.Div, ast.JoinedStr, ast.Yield, ast.YieldFrom,
                  ast.With, ast.Match, ast.NamedExpr, ast.Lambda, ast.Nonlocal, ast.MatMult, ast.Pow, ast.AnnAssign)
        for name, tree in trees().items():
            for node in ast.walk(tree):
                self.assertNotIsInstance(node, barred, (name, getattr(node, "lineno", 0)))
                if isinstance(node, ast.Try):
                    # Only errors of the package are caught.
                    self.assertEqual(node.finalbody, [])
                    for handler in node.handlers:
                        self.assertTrue(hasattr(errors, handler.type.id), (name, node.lineno))
                if isinstance(node, ast.Constant):
                    self.assertNotIsInstance(node.value, (float, complex))
                    if isinstance(node.value, str):
                        self.assertNotIn("%", node.value)
                if isinstance(node, ast.Compare):
                    for sign, side in zip(node.ops, node.comparators):
                        if isinstance(sign, (ast.Is, ast.IsNot)):
                            self.assertIsInstance(side, ast.Constant, (name, node.lineno))
                if isinstance(node, ast.Call) and getattr(node.func, "id", "") in LIBRARY["itertools"]:
                    self.assertFalse([arg for arg in node.args if isinstance(arg, ast.Starred)], (name, node.lineno))
                if isinstance(node, ast.Call):
                    for arg in node.args:
                        self.assertFalse(isinstance(arg, ast.Starred)
                                         and not isinstance(arg.value, (ast.Name, ast.Attribute)), (name, node.lineno))
                if isinstance(node, ast.Raise):
                    self.assertIsInstance(node.exc, ast.Call, (name, node.lineno))

    def test_methods(self):
        own = {node.name for tree in trees().values() for cls in tree.body if isinstance(cls, ast.ClassDef)
               for node in cls.body if isinstance(node, ast.FunctionDef)}
        for name, tree in trees().items():
            for node in ast.walk(tree):
                if isinstance(node, ast.Call) and isinstance(node.func, ast.Attribute):
                    self.assertIn(node.func.attr, METHODS | own, (name, node.lineno))
        self.assertFalse(own & METHODS)

    def test_iterated_at_once(self):
        for name, tree in trees().items():
            fine = set()
            for node in ast.walk(tree):
                if isinstance(node, (ast.For, ast.comprehension)):
                    fine.add(id(node.iter))
                if isinstance(node, ast.Call) and isinstance(node.func, ast.Name):
                    if node.func.id in ("list", "tuple", "dict", "sorted", "sum", "any", "all", "enumerate", "zip"):
                        fine.update(map(id, node.args[:1]))
            for node in ast.walk(tree):
                if isinstance(node, ast.Call):
                    word = node.func.id if isinstance(node.func, ast.Name) else getattr(node.func, "attr", "")
                    if word in ITERATED or isinstance(node.func, ast.Attribute) and word in ("items", "keys", "values"):
                        self.assertIn(id(node), fine, (name, node.lineno))
                if isinstance(node, ast.GeneratorExp):
                    self.assertIn(id(node), fine, (name, node.lineno))

    def test_sets(self):
        for name, tree in trees().items():
            for function in functions(tree):
                sets = self.stored_sets(function)
                self.assertEqual(len(sets), len(set(sets)))
                fine = self.fine_uses(function)
                for node in ast.walk(function):
                    is_set = isinstance(node, (ast.Set, ast.SetComp)) or isinstance(node, ast.Call) \
                        and isinstance(node.func, ast.Name) and node.func.id == "set"
                    used = isinstance(node, ast.Name) and isinstance(node.ctx, ast.Load) and node.id in sets
                    if is_set or used:
                        self.assertIn(id(node), fine, (name, function.name, node.lineno))

    def stored_sets(self, function):
        return [node.targets[0].id for node in ast.walk(function) if isinstance(node, ast.Assign)
                and isinstance(node.value, ast.Call) and isinstance(node.value.func, ast.Name)
                and node.value.func.id == "set"]

    def fine_uses(self, function):
        """Where a set may stand: stored, added to, behind in, and in sorted and len."""
        fine = set()
        for node in ast.walk(function):
            if isinstance(node, ast.Assign):
                fine.add(id(node.value))
            if isinstance(node, ast.Compare) and isinstance(node.ops[0], (ast.In, ast.NotIn)):
                fine.add(id(node.comparators[0]))
            if isinstance(node, ast.Call) and isinstance(node.func, ast.Name) and node.func.id in ("sorted", "len"):
                fine.update(map(id, node.args))
            if isinstance(node, ast.Call) and isinstance(node.func, ast.Attribute) and node.func.attr == "add":
                fine.add(id(node.func.value))
        return fine

    def test_attributes_are_assigned(self):
        assigned = set()
        methods = set()
        for tree in trees().values():
            for node in ast.walk(tree):
                if isinstance(node, ast.Attribute) and isinstance(node.ctx, ast.Store):
                    assigned.add(node.attr)
                if isinstance(node, ast.ClassDef):
                    methods |= {inner.name for inner in node.body if isinstance(inner, ast.FunctionDef)}
        self.assertFalse(assigned & methods)
        self.assertFalse(assigned & METHODS)
