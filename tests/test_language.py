"""Those rules of LANGUAGE.md that a look at the package's trees can tell."""

import ast
import builtins
import pathlib
import re
import unittest

ROOT = pathlib.Path(__file__).resolve().parent.parent
PACKAGE = ROOT / "lorestead"
LIBRARY = {
    "heapq": ("heappush", "heappop", "heapify", "heapreplace", "heappushpop"),
    "math": ("gcd", "lcm", "isqrt", "comb", "perm", "factorial"),
    "itertools": (
        "product", "combinations", "permutations", "chain", "accumulate", "pairwise", "islice", "zip_longest",
    ),
    "collections": ("defaultdict", "deque"),
}
BUILTINS = """
len range enumerate zip min max sum abs sorted reversed int str bool bytes list tuple dict set frozenset isinstance ord
repr any all divmod pow getattr hasattr setattr Exception ValueError TypeError KeyError IndexError LookupError
ZeroDivisionError ArithmeticError OverflowError RuntimeError NotImplementedError AttributeError StopIteration
NotImplemented super iter next map type property staticmethod classmethod
""".split()
METHODS = """
append clear copy count endswith extend find get index insert isalnum isalpha isdigit islower isspace isupper items join
keys ljust lower lstrip partition pop remove replace reverse rfind rjust rpartition rsplit rstrip setdefault split
splitlines startswith strip update upper values zfill bit_length removeprefix removesuffix rindex isascii isdecimal
sort add discard __init__
""".split()
BARRED = "mro elements open input law version_info with_traceback add_note register eval exec globals locals vars".split()


def files():
    return sorted(PACKAGE.rglob("*.py"))


def module_name(path):
    parts = path.relative_to(ROOT).with_suffix("").parts
    return ".".join(parts[:-1] if parts[-1] == "__init__" else parts)


class TestLanguage(unittest.TestCase):

    def setUp(self):
        self.texts = {module_name(path): path.read_text(encoding="utf-8") for path in files()}
        self.trees = {name: ast.parse(text) for name, text in self.texts.items()}

    def nodes(self, *kinds):
        for name, tree in self.trees.items():
            for node in ast.walk(tree):
                if isinstance(node, kinds):
                    yield f"{name}:{getattr(node, 'lineno', 0)}", node

    def test_files(self):
        self.assertLessEqual(len(files()), 100)
        for path in PACKAGE.rglob("*"):
            if "__pycache__" in path.parts:
                continue
            if path.is_dir():
                self.assertTrue((path / "__init__.py").is_file(), path)
            else:
                self.assertTrue(re.fullmatch(r"[a-z0-9_]+\.py", path.name), path)

    def test_sizes_and_signs(self):
        for name, text in self.texts.items():
            lines = text.split("\n")
            self.assertLess(len(lines), 400, name)
            self.assertLessEqual(max(map(len, lines)), 120, name)
            self.assertTrue(all(sign == "\n" or " " <= sign <= "~" for sign in text), name)
        for place, node in self.nodes(ast.FunctionDef):
            self.assertLessEqual(node.end_lineno - node.lineno + 1, 40, place)

    def test_imports(self):
        for place, node in self.nodes(ast.Import):
            self.fail(place)
        for place, node in self.nodes(ast.ImportFrom):
            self.assertEqual(node.level, 0, place)
            for part in node.names:
                self.assertIsNone(part.asname, place)
                if node.module in LIBRARY:
                    self.assertIn(part.name, LIBRARY[node.module], place)
                else:
                    self.assertIn(part.name, self.bound_in(self.trees[node.module], False), place)

    def bound_in(self, tree, with_imports):
        names = []
        for node in tree.body:
            if isinstance(node, (ast.FunctionDef, ast.ClassDef)):
                names.append(node.name)
            elif isinstance(node, ast.Assign):
                names += [target.id for target in node.targets]
            elif isinstance(node, ast.ImportFrom) and with_imports:
                names += [part.name for part in node.names]
        return names

    def test_no_two_files_import_each_other(self):
        ways = {}
        for name, tree in self.trees.items():
            ways[name] = {node.module for node in ast.walk(tree) if isinstance(node, ast.ImportFrom)} & set(self.trees)
        while ways:
            free = [name for name in ways if not ways[name] & set(ways)]
            self.assertTrue(free, ways)
            ways = {name: ways[name] for name in ways if name not in free}

    def test_module_level(self):
        for name, tree in self.trees.items():
            bound = self.bound_in(tree, True)
            self.assertEqual(len(bound), len(set(bound)), name)
            for node in tree.body:
                plain = isinstance(node, (ast.FunctionDef, ast.ClassDef, ast.ImportFrom, ast.Assign))
                is_text = isinstance(node, ast.Expr) and isinstance(node.value, ast.Constant)
                self.assertTrue(plain or is_text, f"{name}:{node.lineno}")

    def test_names(self):
        for place, node in self.nodes(ast.FunctionDef, ast.ClassDef, ast.Name, ast.arg, ast.Attribute):
            word = getattr(node, "name", None) or getattr(node, "id", None) or getattr(node, "arg", None)
            word = word or node.attr
            self.assertNotIn(word, BARRED, place)
            is_set = isinstance(node, (ast.FunctionDef, ast.arg)) or isinstance(getattr(node, "ctx", None), ast.Store)
            if is_set and not word.startswith("__") and not isinstance(node, ast.Attribute):
                self.assertFalse(hasattr(builtins, word), place)
            elif isinstance(node, ast.Name) and hasattr(builtins, word):
                self.assertIn(word, BUILTINS, place)

    def test_methods(self):
        own = {node.name for _, node in self.nodes(ast.FunctionDef)}
        for place, node in self.nodes(ast.Call):
            if isinstance(node.func, ast.Attribute):
                self.assertTrue(node.func.attr in METHODS or node.func.attr in own, place)

    def test_values(self):
        for place, node in self.nodes(ast.Constant):
            self.assertNotIsInstance(node.value, (float, complex), place)
            if isinstance(node.value, str):
                self.assertNotIn("%", node.value, place)
        for place, node in self.nodes(ast.BinOp):
            self.assertNotIsInstance(node.op, (ast.Div, ast.MatMult), place)
            if isinstance(node.op, ast.Pow):
                self.assertIsInstance(node.right, ast.Constant, place)
        for place, node in self.nodes(ast.GeneratorExp):
            self.fail(f"a generator expression: {place}")

    def test_statements(self):
        barred = (ast.Global, ast.AsyncFunctionDef, ast.Await, ast.TypeAlias) if hasattr(ast, "TypeAlias") else \
            (ast.Global, ast.AsyncFunctionDef, ast.Await)
        for place, _ in self.nodes(*barred):
            self.fail(place)
        for place, node in self.nodes(ast.Compare):
            for sign, other in zip(node.ops, node.comparators):
                if isinstance(sign, (ast.Is, ast.IsNot)) and not self.is_asked_type(node.left):
                    self.assertIsInstance(other, ast.Constant, place)

    def is_asked_type(self, node):
        return isinstance(node, ast.Call) and isinstance(node.func, ast.Name) and node.func.id == "type"

    def test_type_is_only_compared(self):
        compared = [id(node.left) for _, node in self.nodes(ast.Compare)]
        for place, node in self.nodes(ast.Call):
            if self.is_asked_type(node):
                self.assertTrue(id(node) in compared, place)
                self.assertEqual(len(node.args), 1, place)

    def test_products_are_iterated_at_once(self):
        free = set()
        for _, node in self.nodes(ast.Call):
            if isinstance(node.func, ast.Name) and node.func.id in ("list", "tuple", "sorted", "sum", "any", "all"):
                free.update(id(part) for part in node.args)
        for _, node in self.nodes(ast.For, ast.comprehension):
            free.add(id(node.iter))
        for place, node in self.nodes(ast.Call):
            if isinstance(node.func, ast.Name) and node.func.id in ("product", "combinations", "permutations"):
                self.assertTrue(id(node) in free, place)
            elif isinstance(node.func, ast.Name) and node.func.id in ("range", "zip", "enumerate", "reversed"):
                self.assertTrue(id(node) in free or id(node) in self.outer(), place)

    def outer(self):
        """Calls that stand right in a zip, an enumerate or a min, or behind an `in`."""
        parts = [part for _, node in self.nodes(ast.Compare) for part in node.comparators]
        for _, node in self.nodes(ast.Call):
            if isinstance(node.func, ast.Name):
                parts += node.args
        return {id(part) for part in parts}

    def test_locals_are_not_called_as_imports_and_classes(self):
        for name, tree in self.trees.items():
            taken = [node.name for node in tree.body if isinstance(node, ast.ClassDef)]
            taken += [part.name for node in tree.body if isinstance(node, ast.ImportFrom) for part in node.names]
            for node in ast.walk(tree):
                if isinstance(node, ast.arg):
                    self.assertNotIn(node.arg, taken, f"{name}:{node.lineno}")
                if isinstance(node, ast.Name) and isinstance(node.ctx, ast.Store):
                    self.assertNotIn(node.id, taken, f"{name}:{node.lineno}")

    def test_attributes_and_methods_have_names_of_their_own(self):
        attributes = {node.attr for _, node in self.nodes(ast.Attribute) if isinstance(node.ctx, ast.Store)}
        methods = {node.name for _, tree in self.nodes(ast.ClassDef) for node in tree.body
                   if isinstance(node, ast.FunctionDef)}
        self.assertEqual(attributes & methods, set())
        for name in attributes | {method for method in methods if not method.startswith("__")}:
            self.assertFalse(any(hasattr(kind, name) for kind in (str, int, list, dict, set, bytes, tuple)), name)

    def test_no_sort_in_place(self):
        for place, node in self.nodes(ast.Attribute):
            self.assertNotEqual(node.attr, "sort", place)

    def test_what_a_loop_goes_over_is_not_changed_in_it(self):
        changing = ("append", "extend", "pop", "remove", "insert", "clear", "update", "setdefault", "reverse")
        for place, node in self.nodes(ast.For):
            over = {part.id for part in ast.walk(node.iter) if isinstance(part, ast.Name)}
            for part in ast.walk(ast.Module(body=node.body, type_ignores=[])):
                if isinstance(part, ast.Call) and isinstance(part.func, ast.Attribute):
                    if part.func.attr in changing and isinstance(part.func.value, ast.Name):
                        self.assertNotIn(part.func.value.id, over, place)
                if isinstance(part, ast.Subscript) and isinstance(part.ctx, ast.Store):
                    if isinstance(part.value, ast.Name):
                        self.assertNotIn(part.value.id, over, place)
                if isinstance(part, ast.AugAssign) and isinstance(part.target, ast.Name):
                    self.assertNotIn(part.target.id, over - self.numbers_in(node.iter), place)

    def numbers_in(self, node):
        """Names that stand within a range or a slice alone, which are read before the loop begins."""
        inner = [part for part in ast.walk(node) if isinstance(part, ast.Call)
                 and isinstance(part.func, ast.Name) and part.func.id == "range"]
        return {part.id for call in inner for part in ast.walk(call) if isinstance(part, ast.Name)}

    def test_each_import_is_used(self):
        for name, tree in self.trees.items():
            used = {node.id for node in ast.walk(tree) if isinstance(node, ast.Name)}
            for node in tree.body:
                if isinstance(node, ast.ImportFrom):
                    for part in node.names:
                        self.assertIn(part.name, used, name)

    def test_sets_are_only_measured_sorted_or_searched(self):
        free = set()
        for _, node in self.nodes(ast.Call):
            if isinstance(node.func, ast.Name) and node.func.id in ("len", "sorted"):
                free.update(id(part) for part in node.args)
        for _, node in self.nodes(ast.Assign, ast.Compare):
            parts = [node.value] if isinstance(node, ast.Assign) else node.comparators
            free.update(id(part) for part in parts)
        for place, node in self.nodes(ast.Set, ast.SetComp):
            self.assertTrue(id(node) in free, place)
        for place, node in self.nodes(ast.Call):
            if isinstance(node.func, ast.Name) and node.func.id in ("set", "frozenset"):
                self.assertTrue(id(node) in free, place)


if __name__ == "__main__":
    unittest.main()
