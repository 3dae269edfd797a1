"""The rules of LANGUAGE.md that a look at the code can decide, one test for each group of them."""

import ast
import builtins
from pathlib import Path
import re
import unittest

ROOT = Path(__file__).resolve().parent.parent
PACKAGE = ROOT / "dampspells"
BUILTINS = """len range enumerate zip min max sum abs sorted reversed int str bool bytes list tuple dict set frozenset
    isinstance ord repr any all divmod pow getattr hasattr setattr iter next map super property staticmethod classmethod
    type Exception ValueError TypeError KeyError IndexError LookupError ZeroDivisionError ArithmeticError OverflowError
    RuntimeError NotImplementedError AttributeError StopIteration NotImplemented""".split()
LIBRARY = {"heapq": "heappush heappop heapify heapreplace heappushpop", "math": "gcd lcm isqrt comb perm factorial",
           "itertools": "product combinations permutations chain accumulate pairwise islice zip_longest",
           "collections": "defaultdict deque"}
METHODS = """append clear copy count endswith extend find get index insert isalnum isalpha isdigit islower isspace
    isupper items join keys ljust lower lstrip partition pop remove replace reverse rfind rjust rpartition rsplit rstrip
    setdefault split splitlines startswith strip update upper values zfill bit_length add discard popleft
    appendleft""".split()
BARRED = """register mro elements open input law version_info with_traceback add_note typing typing_extensions enum Enum
    namedtuple NamedTuple dataclass overload contextmanager abstractmethod""".split()
SPECIAL = """__init__ __eq__ __repr__ __str__ __len__ __enter__ __exit__ __call__ __iter__ __contains__ __add__ __sub__
    __mul__ __neg__ __or__ __and__""".split()
FUNCTIONS = (ast.FunctionDef, ast.Lambda)


def read_files():
    return {path: path.read_text() for path in sorted(PACKAGE.rglob("*.py"))}


def module_name(path):
    return ".".join(path.relative_to(ROOT).with_suffix("").parts)


class Language(unittest.TestCase):
    def setUp(self):
        self.texts = read_files()
        self.trees = {path: ast.parse(text) for path, text in self.texts.items()}
        self.nodes = [(path, node) for path, tree in self.trees.items() for node in ast.walk(tree)]

    def at(self, path, node):
        return f"{path.relative_to(ROOT)}:{getattr(node, 'lineno', '?')}"

    def own(self, path, kind):
        return [node for node in self.trees[path].body if isinstance(node, kind)]

    def test_files(self):
        for path in PACKAGE.rglob("*"):
            if "__pycache__" not in path.parts:
                self.assertTrue(path.is_dir() or path.suffix == ".py", path)
                self.assertRegex(path.stem, r"^[a-z0-9_]+$")
                if path.is_dir():
                    self.assertTrue((path / "__init__.py").is_file(), path)
                    self.assertFalse(path.with_suffix(".py").exists(), path)
        self.assertLessEqual(len(self.texts), 100)

    def test_sizes_and_characters(self):
        for path, text in self.texts.items():
            lines = text.split("\n")
            self.assertLessEqual(len(lines) - 1, 399, path)
            self.assertLessEqual(max(len(line) for line in lines), 120, path)
            self.assertEqual([c for c in text if not (" " <= c <= "~" or c == "\n")], [], path)
        for path, node in self.nodes:
            if isinstance(node, FUNCTIONS):
                self.assertLessEqual(node.end_lineno - node.lineno + 1, 40, self.at(path, node))

    def test_barred_words_and_signs(self):
        for path, node in self.nodes:
            for name in (getattr(node, field, None) for field in ("id", "attr", "arg", "name")):
                self.assertNotIn(name, BARRED, self.at(path, node))
            if isinstance(node, ast.Constant):
                self.assertNotIsInstance(node.value, (float, complex), self.at(path, node))
                if isinstance(node.value, str):
                    self.assertNotIn("%", node.value, self.at(path, node))
            self.assertNotIsInstance(node, (ast.Div, ast.Global, ast.AsyncFunctionDef, ast.Import, ast.AnnAssign),
                                     self.at(path, node))

    def test_imports(self):
        for path, node in self.nodes:
            if isinstance(node, ast.ImportFrom):
                self.assertEqual(node.level, 0, self.at(path, node))
                self.assertIn(node, self.trees[path].body)
                for alias in node.names:
                    self.assertIsNone(alias.asname, self.at(path, node))
                    if node.module in LIBRARY:
                        self.assertIn(alias.name, LIBRARY[node.module].split(), self.at(path, node))
                    else:
                        self.assertIn(alias.name, self.defined(node.module), self.at(path, node))

    def defined(self, module):
        body = self.trees[ROOT / (module.replace(".", "/") + ".py")].body
        names = [node.name for node in body if isinstance(node, (ast.FunctionDef, ast.ClassDef))]
        return names + [target.id for node in body if isinstance(node, ast.Assign) for target in node.targets]

    def test_no_two_files_import_from_each_other(self):
        needs = {module_name(path): [node.module for node in self.own(path, ast.ImportFrom)] for path in self.trees}
        while needs:
            free = [name for name, others in needs.items() if not any(other in needs for other in others)]
            self.assertTrue(free, needs)
            for name in free:
                del needs[name]

    def test_names(self):
        for path, node in self.nodes:
            bound = [node.arg] if isinstance(node, ast.arg) else []
            if isinstance(node, ast.Name):
                bound = [] if isinstance(node.ctx, ast.Load) else [node.id]
                if isinstance(node.ctx, ast.Load):
                    self.assertNotEqual(node.id, "_", self.at(path, node))
                    self.assertTrue(node.id in BUILTINS or not hasattr(builtins, node.id), self.at(path, node))
            if isinstance(node, (ast.FunctionDef, ast.ClassDef)):
                bound = [node.name]
            for name in bound:
                self.assertTrue(name in SPECIAL or not hasattr(builtins, name), self.at(path, node))
                self.assertTrue(name in SPECIAL or re.fullmatch(r"_|_?[A-Za-z][A-Za-z0-9_]*", name), name)

    def test_names_of_imports_are_not_bound_again(self):
        for path, tree in self.trees.items():
            taken = [alias.name for node in self.own(path, ast.ImportFrom) for alias in node.names]
            taken += [node.name for node in self.own(path, ast.ClassDef)]
            for node in ast.walk(tree):
                stored = isinstance(node, ast.Name) and isinstance(node.ctx, ast.Store) and node.id
                name = node.arg if isinstance(node, ast.arg) else stored
                self.assertNotIn(name, taken, self.at(path, node))

    def test_methods_and_attributes(self):
        own = {node.name for _, node in self.nodes if isinstance(node, ast.FunctionDef)}
        own |= {node.attr for _, node in self.nodes
                if isinstance(node, ast.Attribute) and isinstance(node.ctx, ast.Store)}
        own |= {target.id for _, node in self.nodes if isinstance(node, ast.ClassDef)
                for line in node.body if isinstance(line, ast.Assign) for target in line.targets}
        for path, node in self.nodes:
            if isinstance(node, ast.Attribute) and isinstance(node.ctx, ast.Load):
                self.assertIn(node.attr, [*own, *METHODS], self.at(path, node))

    def test_decorators(self):
        for path, node in self.nodes:
            if isinstance(node, ast.FunctionDef):
                names = [ast.unparse(mark) for mark in node.decorator_list]
                self.assertIn(names, ([], ["property"], ["staticmethod"], ["classmethod"]), self.at(path, node))
            if isinstance(node, ast.ClassDef):
                self.assertEqual(node.decorator_list, [], self.at(path, node))

    def test_generators(self):
        names = [node.name for _, node in self.nodes if isinstance(node, ast.FunctionDef)]
        for path, node in self.nodes:
            if isinstance(node, ast.FunctionDef) and any(isinstance(part, ast.Yield) for part in ast.walk(node)):
                self.assertEqual(names.count(node.name), 1, self.at(path, node))
                self.assertNotIn(node.name, METHODS, self.at(path, node))
            # Classes of the package have __eq__ and operators, so builtins take lists.
            self.assertNotIsInstance(node, ast.GeneratorExp, self.at(path, node))

    def test_views_are_iterated_at_once(self):
        takers = ["list", "tuple", "dict", "sorted", "sum", "any", "all", "enumerate", "zip", "min", "max"]
        for path, tree in self.trees.items():
            for node in ast.walk(tree):
                iterated = [getattr(node, "iter", None)]
                if isinstance(node, ast.Call) and isinstance(node.func, ast.Name):
                    iterated = node.args[:1] if node.func.id in takers else []
                for part in ast.iter_child_nodes(node):
                    name = isinstance(part, ast.Call) and (getattr(part.func, "id", None) or part.func.attr)
                    if name in ("zip", "enumerate", "reversed", "items", "keys", "values"):
                        self.assertIn(part, iterated, self.at(path, part))

    def test_identity(self):
        for path, node in self.nodes:
            if isinstance(node, ast.Compare) and isinstance(node.ops[0], (ast.Is, ast.IsNot)):
                self.assertIn(ast.unparse(node.comparators[0]), ("None", "True", "False"), self.at(path, node))

    def test_names_are_methods_or_attributes(self):
        methods = {part.name for _, node in self.nodes if isinstance(node, ast.ClassDef)
                   for part in node.body if isinstance(part, ast.FunctionDef)}
        attributes = {node.attr for _, node in self.nodes
                      if isinstance(node, ast.Attribute) and isinstance(node.ctx, ast.Store)}
        self.assertEqual(methods & attributes, set())

    def test_module_level(self):
        for path, tree in self.trees.items():
            for at, node in enumerate(tree.body):
                doc = at == 0 and isinstance(node, ast.Expr) and isinstance(node.value, ast.Constant)
                self.assertTrue(doc or isinstance(node, (ast.ImportFrom, ast.FunctionDef, ast.ClassDef, ast.Assign)),
                                self.at(path, node))


if __name__ == "__main__":
    unittest.main()
