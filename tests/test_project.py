"""The README's examples, and of the rules for the package's files those that can be told by going through them."""

import ast
import builtins
import doctest
import pathlib
import re
import unittest

ROOT = pathlib.Path(__file__).resolve().parent.parent
PACKAGE = ROOT / "fadinginks"
FILES = sorted(PACKAGE.glob("*.py"))
LIBRARY = {
    "heapq": "heappush heappop heapify heapreplace heappushpop", "math": "gcd lcm isqrt comb perm factorial",
    "itertools": "product combinations permutations chain accumulate pairwise islice zip_longest",
    "collections": "defaultdict deque",
}
CALLED = """len range enumerate zip min max sum abs sorted reversed int str bool list tuple dict set isinstance ord repr
    any all divmod pow map iter next super type""".split()
BARRED = """register mro elements open input law version_info with_traceback add_note typing enum Enum Flag Generic
    Protocol ABC namedtuple abstractmethod dataclass overload contextmanager chr""".split()


def trees():
    """Return pairs (path, tree) of the package's files."""
    return [(path, ast.parse(path.read_text())) for path in FILES]


def bound_names(tree):
    """Return all names that the tree gives a meaning, but those of methods and attributes."""
    names = [node.id for node in ast.walk(tree) if isinstance(node, ast.Name) and not isinstance(node.ctx, ast.Load)]
    names += [node.arg for node in ast.walk(tree) if isinstance(node, ast.arg)]
    names += [node.name for node in tree.body if isinstance(node, (ast.FunctionDef, ast.ClassDef))]
    return names


class ReadmeTest(unittest.TestCase):
    def test_examples(self):
        failed, tried = doctest.testfile(str(ROOT / "README.md"), module_relative=False)
        self.assertEqual(failed, 0)
        self.assertGreater(tried, 10)


class RulesTest(unittest.TestCase):
    def test_files(self):
        found = [path for path in PACKAGE.rglob("*") if "__pycache__" not in path.parts]
        self.assertEqual(sorted(found), FILES)
        for path in FILES:
            self.assertRegex(path.name, "^(__init__|[a-z][a-z0-9_]*)[.]py$")

    def test_sizes_and_characters(self):
        for path, tree in trees():
            lines = path.read_text().split("\n")
            self.assertLess(len(lines), 400, path)
            self.assertLessEqual(max(map(len, lines)), 120, path)
            self.assertRegex(path.read_text(), r"\A[ -~\n]*\Z", path)
            for node in ast.walk(tree):
                if isinstance(node, ast.FunctionDef):
                    self.assertLessEqual(node.end_lineno - node.lineno + 1, 40, (path, node.name))

    def test_imports(self):
        defined = {path.stem: bound_names(tree) for path, tree in trees()}
        for path, tree in trees():
            for node in ast.walk(tree):
                self.assertNotIsInstance(node, ast.Import, path)
                if isinstance(node, ast.ImportFrom):
                    self.assertIn(node, tree.body, path)
                    for alias in node.names:
                        self.assertIsNone(alias.asname, path)
                        if node.module in LIBRARY:
                            self.assertIn(alias.name, LIBRARY[node.module].split(), path)
                        else:
                            package, _, file = node.module.partition(".")
                            self.assertEqual((package, node.level), ("fadinginks", 0), path)
                            self.assertIn(alias.name, defined[file], path)

    def test_names(self):
        for path, tree in trees():
            taken = [alias.name for node in tree.body if isinstance(node, ast.ImportFrom) for alias in node.names]
            for name in bound_names(tree):
                # The doctests' shell makes _ a builtin.
                self.assertTrue(name == "_" or not hasattr(builtins, name), (path, name))
                self.assertNotIn(name, taken, path)
                self.assertRegex(name, "^(_|_?[A-Za-z][A-Za-z0-9_]*)$", path)
            for node in ast.walk(tree):
                if isinstance(node, ast.Name) and hasattr(builtins, node.id) and node.id[0].islower():
                    self.assertIn(node.id, CALLED, path)

    def test_words(self):
        for path, tree in trees():
            words = [node.id for node in ast.walk(tree) if isinstance(node, ast.Name)]
            words += [node.attr for node in ast.walk(tree) if isinstance(node, ast.Attribute)]
            words += [node.arg for node in ast.walk(tree) if isinstance(node, (ast.arg, ast.keyword))]
            for node in ast.walk(tree):
                if isinstance(node, ast.Constant) and isinstance(node.value, str):
                    self.assertNotIn("%", node.value, path)
                self.assertFalse(isinstance(node, ast.Constant) and isinstance(node.value, float), path)
                self.assertNotIsInstance(node, ast.Div, path)
            self.assertEqual([word for word in words if word in BARRED], [], path)
            self.assertIsNone(re.search(r"\b(eval|exec|compile|globals|locals|vars|dir)\(", path.read_text()), path)

    def test_module_level(self):
        kinds = (ast.ImportFrom, ast.FunctionDef, ast.ClassDef, ast.Assign)
        for path, tree in trees():
            self.assertTrue(ast.get_docstring(tree), path)
            for node in tree.body[1:]:
                self.assertIsInstance(node, kinds, path)
                self.assertEqual(getattr(node, "decorator_list", []), [], path)
                if isinstance(node, ast.Assign):
                    self.assertEqual([type(target) for target in node.targets], [ast.Name], path)

    def test_methods_and_attributes(self):
        for path, tree in trees():
            for made in [node for node in tree.body if isinstance(node, ast.ClassDef)]:
                methods = [node.name for node in made.body if isinstance(node, ast.FunctionDef)]
                self.assertEqual(len(methods), len(set(methods)), (path, made.name))
                for node in ast.walk(made):
                    if isinstance(node, ast.Attribute) and isinstance(node.ctx, ast.Store):
                        self.assertNotIn(node.attr, methods, (path, made.name))
