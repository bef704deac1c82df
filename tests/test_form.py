"""The form of the package's files: the limits of LANGUAGE.md that can be read off the code."""

import ast
import builtins
import pathlib
import unittest

PACKAGE = pathlib.Path(__file__).resolve().parent.parent / "windways"
FROM_LIBRARY = {
    "heapq": {"heappush", "heappop", "heapify", "heapreplace", "heappushpop"},
    "math": {"gcd", "lcm", "isqrt", "comb", "perm", "factorial"},
    "itertools": {
        "product", "combinations", "permutations", "chain", "accumulate", "pairwise", "islice", "zip_longest",
    },
    "collections": {"defaultdict", "deque"},
}
FUNCTION = (ast.FunctionDef, ast.AsyncFunctionDef)
METHODS = {
    "append", "clear", "copy", "count", "endswith", "extend", "find", "get", "index", "insert", "isalnum", "isalpha",
    "isdigit", "items", "join", "keys", "pop", "remove", "replace", "setdefault", "split", "startswith", "values",
}


class Form(unittest.TestCase):
    def setUp(self):
        self.files = {path: path.read_text(encoding="ascii") for path in sorted(PACKAGE.glob("*.py"))}
        self.trees = {path: ast.parse(text) for path, text in self.files.items()}

    def nodes(self):
        for path, tree in self.trees.items():
            for node in ast.walk(tree):
                yield path.name, node

    def test_the_package_is_one_folder_of_files(self):
        for path in PACKAGE.iterdir():
            if path.name != "__pycache__":
                self.assertIn(path, self.files)
                self.assertFalse(path.name.startswith("test"), path.name)
        self.assertIn(PACKAGE / "__init__.py", self.files)

    def test_sizes(self):
        for path, text in self.files.items():
            lines = text.split("\n")
            self.assertLessEqual(len(lines), 400, path.name)
            self.assertLessEqual(max(len(line) for line in lines), 120, path.name)
        for name, node in self.nodes():
            if isinstance(node, FUNCTION):
                self.assertLessEqual(node.end_lineno - node.lineno + 1, 40, (name, node.name))

    def test_characters(self):
        for path, text in self.files.items():
            for sign in text:
                self.assertTrue(sign == "\n" or " " <= sign <= "~", path.name)

    def test_imports(self):
        for name, node in self.nodes():
            self.assertNotIsInstance(node, ast.Import, name)
            if isinstance(node, ast.ImportFrom):
                self.assertEqual(node.level, 0, name)
                for alias in node.names:
                    self.assertIsNone(alias.asname, name)
                    if node.module in FROM_LIBRARY:
                        self.assertIn(alias.name, FROM_LIBRARY[node.module], name)
                    elif node.module != "__future__":
                        self.assertTrue((PACKAGE.parent / (node.module.replace(".", "/") + ".py")).is_file(), name)

    def test_no_floats_and_no_division_with_a_rest(self):
        for name, node in self.nodes():
            self.assertNotIsInstance(node, ast.Div, name)
            if isinstance(node, ast.Constant):
                self.assertNotIsInstance(node.value, (float, complex), name)

    def test_no_names_with_two_underscores_in_front(self):
        for name, node in self.nodes():
            if isinstance(node, ast.Name):
                self.assertFalse(node.id.startswith("__"), name)

    def test_no_builtin_that_reads_or_writes(self):
        barred = {"open", "input", "print", "eval", "exec", "compile", "globals", "locals", "vars", "round", "float"}
        for name, node in self.nodes():
            if isinstance(node, ast.Name):
                self.assertNotIn(node.id, barred, name)

    def test_module_levels_hold_definitions_and_plain_values(self):
        for path, tree in self.trees.items():
            for at, node in enumerate(tree.body):
                docstring = at == 0 and isinstance(node, ast.Expr) and isinstance(node.value, ast.Constant)
                defined = isinstance(node, (ast.ImportFrom, ast.FunctionDef, ast.ClassDef, ast.Assign))
                self.assertTrue(docstring or defined, (path.name, node.lineno))

    def test_names_are_bound_once_and_shadow_nothing(self):
        for path, tree in self.trees.items():
            imported = {alias.name for node in tree.body if isinstance(node, ast.ImportFrom) for alias in node.names}
            classes = {node.name for node in tree.body if isinstance(node, ast.ClassDef)}
            functions = {node.name for node in tree.body if isinstance(node, ast.FunctionDef)}
            self.assertFalse(imported & (classes | functions), path.name)
            for node in ast.walk(tree):
                name = node.arg if isinstance(node, ast.arg) else None
                if isinstance(node, ast.Name) and isinstance(node.ctx, ast.Store):
                    name = node.id
                # Where a doctest ran before, "_" counts among the builtins.
                self.assertFalse(name in imported | classes | functions | set(dir(builtins)) - {"_"}, (path.name, name))

    def test_what_is_imported_is_used(self):
        for path, tree in self.trees.items():
            used = {node.id for node in ast.walk(tree) if isinstance(node, ast.Name)}
            for node in tree.body:
                if isinstance(node, ast.ImportFrom):
                    for alias in node.names:
                        self.assertIn(alias.name, used, path.name)

    def test_files_do_not_import_one_another_in_a_ring(self):
        imports = {}
        for path, tree in self.trees.items():
            imports["windways." + path.stem] = [node.module for node in tree.body if isinstance(node, ast.ImportFrom)]
        while imports:
            free = [name for name, others in imports.items() if not any(other in imports for other in others)]
            self.assertTrue(free, sorted(imports))
            for name in free:
                del imports[name]

    def test_comparisons_by_is(self):
        for name, node in self.nodes():
            if isinstance(node, ast.Compare):
                for sign, right in zip(node.ops, node.comparators):
                    if isinstance(sign, (ast.Is, ast.IsNot)):
                        self.assertTrue(isinstance(right, ast.Constant) and right.value in (None, True, False), name)

    def test_methods_are_own_ones_or_named_in_the_rules(self):
        own = {node.name for _, node in self.nodes() if isinstance(node, ast.FunctionDef)}
        for name, node in self.nodes():
            if isinstance(node, ast.Call) and isinstance(node.func, ast.Attribute):
                self.assertIn(node.func.attr, METHODS | own, name)

    def test_kinds_of_expressions_and_statements(self):
        barred = (
            ast.GeneratorExp, ast.Lambda, ast.Await, ast.Global, ast.Nonlocal, ast.AsyncFor, ast.AsyncWith,
            ast.JoinedStr,
        )
        for name, node in self.nodes():
            self.assertNotIsInstance(node, barred, name)
            if isinstance(node, ast.Constant) and isinstance(node.value, str):
                self.assertNotIn("%", node.value, name)
            if isinstance(node, ast.ExceptHandler):
                self.assertIsNotNone(node.type, name)
            if isinstance(node, FUNCTION):
                self.assertEqual(node.decorator_list, [], name)

    def test_double_underscore_methods(self):
        allowed = {
            "__init__": ["self"], "__len__": ["self"], "__eq__": ["self", "other"], "__iadd__": ["self", "other"],
        }
        for name, node in self.nodes():
            if isinstance(node, FUNCTION) and node.name.startswith("__"):
                parameters = [parameter.arg for parameter in node.args.args]
                self.assertEqual(parameters[:len(allowed[node.name])], allowed[node.name], name)
                if node.name in ("__len__", "__eq__"):
                    self.assertEqual([type(part) for part in node.body], [ast.Return], name)

    def test_no_name_is_a_method_and_an_attribute(self):
        methods, attributes = set(), set()
        for _, node in self.nodes():
            if isinstance(node, ast.ClassDef):
                methods |= {part.name for part in node.body if isinstance(part, FUNCTION)}
            if isinstance(node, ast.Attribute) and isinstance(node.ctx, ast.Store):
                attributes.add(node.attr)
        self.assertFalse(methods & attributes)

    def test_words_that_are_not_used(self):
        names = {
            "register", "mro", "elements", "open", "input", "law", "version_info", "with_traceback", "add_note",
            "compile",
            "copyright", "dir", "exit", "gc", "help", "id", "license", "methodcaller", "os", "quit", "super", "sys",
            "vars",
        }
        words = {"type", "typing", "enum", "Enum", "Flag", "Generic", "Protocol", "ABC", "namedtuple", "NamedTuple"}
        for name, node in self.nodes():
            told = [getattr(node, field, None) for field in ("id", "arg", "attr", "name")]
            self.assertFalse((names | words) & {word for word in told if isinstance(word, str)}, name)
            if isinstance(node, ast.Constant) and isinstance(node.value, str) and "\n" not in node.value:
                self.assertTrue(node.value.endswith(".") or not words & set(node.value.split()), name)

    def test_exponents_are_literals(self):
        for name, node in self.nodes():
            if isinstance(node, ast.BinOp) and isinstance(node.op, ast.Pow):
                self.assertIsInstance(node.right, ast.Constant, name)
                self.assertIn(node.right.value, range(65), name)

    def test_sets_are_made_only_to_be_sorted_or_measured(self):
        for name, node in self.nodes():
            if isinstance(node, ast.Call) and isinstance(node.func, ast.Name):
                for part in node.args:
                    if isinstance(part, (ast.Set, ast.SetComp)):
                        self.assertIn(node.func.id, ("sorted", "len"), name)
            elif isinstance(node, (ast.Assign, ast.Return)):
                self.assertNotIsInstance(node.value, (ast.Set, ast.SetComp), name)


if __name__ == "__main__":
    unittest.main()
