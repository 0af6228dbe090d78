"""The form of the package: its files, their sizes, signs and imports, and the builtins that they call."""

import ast
import builtins
import unittest
from pathlib import Path

PACKAGE = Path(__file__).resolve().parent.parent / "fifthhost"
FILES = sorted(PACKAGE.glob("*.py"))
TREES = {path.stem: ast.parse(path.read_text("utf-8")) for path in FILES}
LET_BUILTINS = """
len range enumerate zip min max sum abs sorted reversed int str bool bytes list tuple dict set isinstance ord repr any
all divmod map iter next type super ValueError KeyError ZeroDivisionError TypeError NotImplemented
""".split()
LET_METHODS = """
append clear copy count endswith extend find get index insert isalnum isalpha isdigit islower isspace isupper items join
keys ljust lower lstrip partition pop remove replace reverse rfind rjust rpartition rsplit rstrip setdefault split
splitlines startswith strip update upper values zfill bit_length sort add discard isascii __class__ __name__
""".split()
LET_LIBRARY = ("heapq", "math", "itertools", "collections")


def defined(tree):
    """The names that a file defines itself."""
    names = [node.name for node in tree.body if isinstance(node, (ast.FunctionDef, ast.ClassDef))]
    return names + [node.targets[0].id for node in tree.body if isinstance(node, ast.Assign)]


def imported(tree):
    """The files of the package that a file imports from, with the names."""
    return [(node.module.split(".")[1], one.name) for node in tree.body
            if isinstance(node, ast.ImportFrom) and node.module.startswith("fifthhost.") for one in node.names]


class Form(unittest.TestCase):

    def test_the_folder_holds_nothing_else(self):
        rest = [path.name for path in PACKAGE.iterdir() if path.suffix != ".py" and path.name != "__pycache__"]
        self.assertEqual(rest, [])
        self.assertTrue((PACKAGE / "__init__.py").is_file())

    def test_lines(self):
        for path in FILES:
            text = path.read_text("utf-8")
            rows = text.split("\n")
            self.assertLessEqual(len(rows), 399, path.name)
            self.assertLessEqual(max(map(len, rows)), 120, path.name)
            self.assertTrue(all(" " <= sign <= "~" or sign == "\n" for sign in text), path.name)

    def test_functions(self):
        for name, tree in TREES.items():
            for node in ast.walk(tree):
                if isinstance(node, ast.FunctionDef):
                    self.assertLessEqual(node.end_lineno - node.lineno + 1, 40, (name, node.name))
                    self.assertIsNotNone(ast.get_docstring(node) or node.name == "__init__" or None, node.name)

    def test_imports_name_the_file_that_defines_the_name(self):
        for name, tree in TREES.items():
            for node in ast.walk(tree):
                self.assertNotIsInstance(node, ast.Import, name)
                if isinstance(node, ast.ImportFrom):
                    self.assertEqual(node.level, 0)
                    self.assertIn(node, tree.body)
                    self.assertTrue(node.module.startswith("fifthhost.") or node.module in LET_LIBRARY)
                    self.assertTrue(all(one.asname is None for one in node.names))
            for file, word in imported(tree):
                self.assertIn(word, defined(TREES[file]), (name, word))

    def test_imports_are_used_and_bound_once(self):
        for name, tree in TREES.items():
            words = [word for _, word in imported(tree)]
            bound = words + defined(tree)
            self.assertEqual(len(bound), len(set(bound)), name)
            used = {node.id for node in ast.walk(tree) if isinstance(node, ast.Name)}
            self.assertEqual([word for word in words if word not in used], [], name)

    def test_no_two_files_import_from_each_other(self):
        left = {name: {file for file, _ in imported(tree)} for name, tree in TREES.items()}
        while left:
            free = [name for name in left if not left[name] & set(left)]
            self.assertTrue(free, left)
            for name in free:
                del left[name]

    def test_builtins(self):
        for name, tree in TREES.items():
            for node in ast.walk(tree):
                if isinstance(node, ast.Name) and hasattr(builtins, node.id):
                    self.assertIn(node.id, LET_BUILTINS, (name, node.lineno))
                    self.assertIsInstance(node.ctx, ast.Load, (name, node.lineno))
                if isinstance(node, ast.arg):
                    self.assertFalse(hasattr(builtins, node.arg), (name, node.lineno))

    def test_methods_are_let_or_own(self):
        own = {node.name for tree in TREES.values() for node in ast.walk(tree) if isinstance(node, ast.FunctionDef)}
        own |= {node.attr for tree in TREES.values() for node in ast.walk(tree)
                if isinstance(node, ast.Attribute) and isinstance(node.ctx, ast.Store)}
        for name, tree in TREES.items():
            for node in ast.walk(tree):
                if isinstance(node, ast.Attribute):
                    self.assertIn(node.attr, own | set(LET_METHODS), (name, node.lineno))

    def test_sets_and_generators(self):
        for name, tree in TREES.items():
            for node in ast.walk(tree):
                self.assertNotIsInstance(node, (ast.GeneratorExp, ast.Set, ast.SetComp, ast.Yield), (name, node))

    def test_tables_of_a_file_are_only_read(self):
        # A dict or list at the top of a file is not passed on, given another name or changed.
        for name, tree in TREES.items():
            tables = {node.targets[0].id for node in tree.body
                      if isinstance(node, ast.Assign) and isinstance(node.value, (ast.Dict, ast.List))}
            read = [node.value for node in ast.walk(tree)
                    if isinstance(node, ast.Subscript) and isinstance(node.ctx, ast.Load)]
            read += [node.comparators[0] for node in ast.walk(tree)
                     if isinstance(node, ast.Compare) and isinstance(node.ops[0], (ast.In, ast.NotIn))]
            for node in ast.walk(tree):
                if isinstance(node, ast.Name) and node.id in tables and isinstance(node.ctx, ast.Load):
                    self.assertTrue(any(node is one for one in read), (name, node.id, node.lineno))

    def test_no_floats_and_no_decorators(self):
        for name, tree in TREES.items():
            for node in ast.walk(tree):
                self.assertNotIsInstance(node, (ast.Div, ast.Global, ast.AsyncFunctionDef), name)
                if isinstance(node, ast.Constant):
                    self.assertNotIsInstance(node.value, float, (name, node.lineno))
                if isinstance(node, ast.FunctionDef):
                    self.assertEqual(node.decorator_list, [], (name, node.name))

    def test_is_stands_beside_none_alone(self):
        for name, tree in TREES.items():
            for node in ast.walk(tree):
                if isinstance(node, ast.Compare) and any(isinstance(op, (ast.Is, ast.IsNot)) for op in node.ops):
                    other = node.comparators[0]
                    kind = isinstance(node.left, ast.Call) and node.left.func.id == "type" and other.id in LET_BUILTINS
                    self.assertTrue(kind or isinstance(other, ast.Constant) and other.value is None, (name, node.lineno))

    def test_methods_and_attributes_have_unlike_names(self):
        for name, tree in TREES.items():
            for one in tree.body:
                if isinstance(one, ast.ClassDef):
                    methods = [node.name for node in one.body if isinstance(node, ast.FunctionDef)]
                    self.assertEqual(len(methods), len(set(methods)), (name, one.name))
                    stored = {node.attr for node in ast.walk(one) if isinstance(node, ast.Attribute) and isinstance(node.ctx, ast.Store)}
                    self.assertEqual(stored & set(methods), set(), (name, one.name))
                    self.assertFalse(any(method in vars(builtins) for method in methods if method != "__init__"), one.name)

    def test_signs_of_strings(self):
        for name, tree in TREES.items():
            for node in ast.walk(tree):
                if isinstance(node, ast.Constant) and isinstance(node.value, str):
                    self.assertNotIn("%", node.value, (name, node.lineno))
                    self.assertNotIn("__", node.value, (name, node.lineno))

    def test_errors_that_are_caught_and_raised(self):
        known = {node.name for node in TREES["errors"].body if isinstance(node, ast.ClassDef)}
        for name, tree in TREES.items():
            for node in ast.walk(tree):
                if isinstance(node, ast.ExceptHandler):
                    self.assertIn(node.type.id, known, (name, node.lineno))
                if isinstance(node, ast.Raise):
                    self.assertIn(node.exc.func.id, known, (name, node.lineno))
                    self.assertEqual((len(node.exc.args), node.exc.keywords), (1, []), (name, node.lineno))

    def test_stars_of_calls_stand_over_names(self):
        for name, tree in TREES.items():
            for node in ast.walk(tree):
                if isinstance(node, ast.Call):
                    stars = [one.value for one in node.args if isinstance(one, ast.Starred)]
                    self.assertTrue(all(isinstance(one, ast.Name) for one in stars), (name, node.lineno))
                    self.assertTrue(all(one.arg is not None for one in node.keywords), (name, node.lineno))

    def test_no_local_name_is_that_of_an_import_or_a_class(self):
        for name, tree in TREES.items():
            outer = {word for _, word in imported(tree)}
            outer |= {node.name for node in tree.body if isinstance(node, ast.ClassDef)}
            for node in ast.walk(tree):
                if isinstance(node, ast.Name) and isinstance(node.ctx, ast.Store):
                    self.assertNotIn(node.id, outer, (name, node.lineno))
                if isinstance(node, ast.arg):
                    self.assertNotIn(node.arg, outer, (name, node.lineno))


if __name__ == "__main__":
    unittest.main()
