"""The rules of LANGUAGE.md that can be looked up in the files one by one."""

import ast
import pathlib
import re
import unittest

PACKAGE = pathlib.Path(__file__).resolve().parent.parent / "keptbudgets"
FILES = sorted(path for path in PACKAGE.rglob("*") if path.is_file() and "__pycache__" not in path.parts)

BUILTINS = set("""len range enumerate zip min max sum abs sorted reversed int str bool list tuple dict set isinstance
    ord repr any all divmod super""".split())
METHODS = set("""append clear copy count endswith extend find get index insert isalnum isalpha isdigit islower isspace
    isupper items join keys ljust lower lstrip partition pop remove replace reverse rfind rjust rpartition rsplit rstrip
    setdefault split splitlines startswith strip update upper values zfill bit_length add discard""".split())
LIBRARY = {"heapq": {"heappush", "heappop"}, "math": {"gcd", "lcm", "isqrt", "comb", "perm", "factorial"},
           "itertools": {"product", "combinations", "permutations"}}
DOUBLE = {"__init__", "__eq__", "__add__", "__sub__", "__mul__"}
BARRED = set("""register mro elements open input law version_info with_traceback add_note type typing enum eval exec
    exit getattr setattr hasattr globals locals vars dir id os sys float""".split())


def tree_of(path):
    return ast.parse(path.read_text())


def nodes(kind):
    return [(path, node) for path in FILES for node in ast.walk(tree_of(path)) if isinstance(node, kind)]


class FilesTest(unittest.TestCase):
    def test_the_folder_has_plain_python_files_only(self):
        self.assertTrue((PACKAGE / "__init__.py").is_file())
        for path in FILES:
            self.assertEqual(path.parent, PACKAGE)
            self.assertRegex(path.name, r"\A(__init__|[a-z][a-z0-9_]*)\.py\Z")

    def test_sizes_and_characters(self):
        for path in FILES:
            text = path.read_bytes().decode("ascii")
            lines = text.split("\n")
            self.assertLessEqual(len(lines) - 1, 399, path.name)
            self.assertIsNone(re.search(r"[^ -~\n]", text), path.name)
            self.assertLessEqual(max(map(len, lines)), 120, path.name)

    def test_functions_have_at_most_40_lines(self):
        for path, node in nodes(ast.FunctionDef):
            self.assertLessEqual(node.end_lineno - node.lineno + 1, 40, (path.name, node.name))

    def test_imports_name_the_file_that_defines_the_name_and_make_no_ring(self):
        needs = {}
        for path in FILES:
            tree = tree_of(path)
            needs[path.stem] = set()
            for node in ast.walk(tree):
                self.assertNotIsInstance(node, ast.Import)
                if isinstance(node, ast.ImportFrom):
                    self.assertIn(node, tree.body)
                    self.assertEqual((node.level, [name.asname for name in node.names if name.asname]), (0, []))
                    if node.module in LIBRARY:
                        self.assertLessEqual({name.name for name in node.names}, LIBRARY[node.module])
                        continue
                    self.assertTrue(node.module.startswith("keptbudgets."))
                    module = node.module.split(".")[1]
                    needs[path.stem].add(module)
                    bound = bound_in(tree_of(PACKAGE / (module + ".py")))
                    self.assertLessEqual({name.name for name in node.names}, bound)
        while needs:
            free = {module for module in needs if not needs[module] & set(needs)}
            self.assertTrue(free, needs)
            needs = {module: needs[module] for module in needs if module not in free}


def bound_in(tree):
    """The names that a module binds itself, imports aside."""
    names = {part.name for part in tree.body if isinstance(part, (ast.FunctionDef, ast.ClassDef))}
    return names | {part.targets[0].id for part in tree.body if isinstance(part, ast.Assign)}


class WordsTest(unittest.TestCase):
    def test_only_plain_things_stand_at_module_level(self):
        for path in FILES:
            for part in tree_of(path).body:
                plain = (ast.ImportFrom, ast.FunctionDef, ast.ClassDef, ast.Assign)
                self.assertTrue(isinstance(part, plain) or isinstance(part, ast.Expr) and
                                isinstance(part.value, ast.Constant), (path.name, part.lineno))

    def test_builtins_that_are_called(self):
        known = BUILTINS | {name for tree in map(tree_of, FILES) for name in bound_in(tree)}
        known |= {name for names in LIBRARY.values() for name in names}
        for path, node in nodes(ast.Call):
            if isinstance(node.func, ast.Name):
                self.assertIn(node.func.id, known, (path.name, node.lineno))

    def test_methods_that_are_called(self):
        own = {node.name for _, node in nodes(ast.FunctionDef)}
        for path, node in nodes(ast.Call):
            if isinstance(node.func, ast.Attribute):
                self.assertIn(node.func.attr, METHODS | own, (path.name, node.lineno))

    def test_no_floats_divisions_and_generator_expressions(self):
        # all, any, sum and the like take lists, since Share has an __eq__.
        barred = (ast.Div, ast.MatMult, ast.GeneratorExp, ast.AsyncFunctionDef, ast.Await)
        for path, node in nodes(ast.AST):
            self.assertNotIsInstance(node, barred, (path.name, getattr(node, "lineno", 0)))
            if isinstance(node, ast.Constant):
                self.assertNotIsInstance(node.value, (float, complex, bytes))
            if isinstance(node, ast.BinOp) and isinstance(node.op, ast.Pow):
                self.assertIsInstance(node.right, ast.Constant, (path.name, node.lineno))

    def test_names(self):
        builtins = set(dir(__import__("builtins")))
        for path, node in nodes((ast.Name, ast.arg, ast.FunctionDef, ast.ClassDef, ast.Attribute)):
            name = getattr(node, "id", None) or getattr(node, "arg", None) or getattr(node, "name", None) or node.attr
            self.assertNotIn(name, BARRED, path.name)
            if name.startswith("__"):
                self.assertIn(name, DOUBLE, path.name)
            made = isinstance(node, (ast.arg, ast.ClassDef)) or isinstance(getattr(node, "ctx", None), ast.Store)
            if made and not isinstance(node, ast.Attribute):
                self.assertNotIn(name, builtins, path.name)

    def test_no_name_is_a_method_and_an_attribute_in_one_class(self):
        for path, node in nodes(ast.ClassDef):
            methods = {part.name for part in node.body if isinstance(part, ast.FunctionDef)}
            stored = {part.attr for part in ast.walk(node) if isinstance(part, ast.Attribute)
                      and isinstance(part.ctx, ast.Store) and getattr(part.value, "id", None) == "self"}
            self.assertEqual(methods & stored, set(), (path.name, node.name))

    def test_attributes_that_are_read_are_assigned_or_methods(self):
        known = {node.name for _, node in nodes(ast.FunctionDef)} | METHODS
        known |= {part.targets[0].id for _, node in nodes(ast.ClassDef) for part in node.body
                  if isinstance(part, ast.Assign)}
        known |= {node.attr for _, node in nodes(ast.Attribute) if isinstance(node.ctx, ast.Store)}
        for path, node in nodes(ast.Attribute):
            self.assertIn(node.attr, known, (path.name, node.lineno))

    def test_is_stands_beside_none_true_and_false_only(self):
        for path, node in nodes(ast.Compare):
            for sign, value in zip(node.ops, node.comparators):
                if isinstance(sign, (ast.Is, ast.IsNot)):
                    self.assertIsInstance(value, ast.Constant, (path.name, node.lineno))
                    self.assertIn(value.value, (None, True, False))

    def test_no_local_name_is_a_class_or_an_import_of_its_file(self):
        for path in FILES:
            tree = tree_of(path)
            taken = {name.name for node in tree.body if isinstance(node, ast.ImportFrom) for name in node.names}
            taken |= {node.name for node in tree.body if isinstance(node, ast.ClassDef)}
            for node in ast.walk(tree):
                local = node.arg if isinstance(node, ast.arg) else getattr(node, "id", None)
                if isinstance(node, ast.arg) or isinstance(getattr(node, "ctx", None), ast.Store):
                    self.assertNotIn(local, taken, path.name)


if __name__ == "__main__":
    unittest.main()
