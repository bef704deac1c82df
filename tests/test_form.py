"""The form of the package's files: the limits of LANGUAGE.md that can be read off the code."""

import ast
import pathlib
import unittest

PACKAGE = pathlib.Path(__file__).resolve().parent.parent / "windways"
FROM_LIBRARY = {
    "heapq": {"heappush", "heappop", "heapify", "heapreplace", "heappushpop"},
    "math": {"gcd", "lcm", "isqrt", "comb", "perm", "factorial"},
    "itertools": {
        "product", "combinations", "permutations", "chain", "accumulate", "pairwise", "islice", "zip_longest",
    },
    "collections": {"defaultdict", "deque"},
}
FUNCTION = (ast.FunctionDef, ast.AsyncFunctionDef)


class Form(unittest.TestCase):
    def setUp(self):
        self.files = {path: path.read_text(encoding="ascii") for path in sorted(PACKAGE.glob("*.py"))}
        self.trees = {path: ast.parse(text) for path, text in self.files.items()}

    def nodes(self):
        for path, tree in self.trees.items():
            for node in ast.walk(tree):
                yield path.name, node

    def test_the_package_is_one_folder_of_files(self):
        for path in PACKAGE.iterdir():
            if path.name != "__pycache__":
                self.assertIn(path, self.files)
                self.assertFalse(path.name.startswith("test"), path.name)
        self.assertIn(PACKAGE / "__init__.py", self.files)

    def test_sizes(self):
        for path, text in self.files.items():
            lines = text.split("\n")
            self.assertLessEqual(len(lines), 400, path.name)
            self.assertLessEqual(max(len(line) for line in lines), 120, path.name)
        for name, node in self.nodes():
            if isinstance(node, FUNCTION):
                self.assertLessEqual(node.end_lineno - node.lineno + 1, 40, (name, node.name))

    def test_characters(self):
        for path, text in self.files.items():
            for sign in text:
                self.assertTrue(sign == "\n" or " " <= sign <= "~", path.name)

    def test_imports(self):
        for name, node in self.nodes():
            self.assertNotIsInstance(node, ast.Import, name)
            if isinstance(node, ast.ImportFrom):
                self.assertEqual(node.level, 0, name)
                for alias in node.names:
                    self.assertIsNone(alias.asname, name)
                    if node.module in FROM_LIBRARY:
                        self.assertIn(alias.name, FROM_LIBRARY[node.module], name)
                    elif node.module != "__future__":
                        self.assertTrue((PACKAGE.parent / (node.module.replace(".", "/") + ".py")).is_file(), name)

    def test_no_floats_and_no_division_with_a_rest(self):
        for name, node in self.nodes():
            self.assertNotIsInstance(node, ast.Div, name)
            if isinstance(node, ast.Constant):
                self.assertNotIsInstance(node.value, (float, complex), name)

    def test_no_names_with_two_underscores_in_front(self):
        for name, node in self.nodes():
            if isinstance(node, ast.Name):
                self.assertFalse(node.id.startswith("__"), name)

    def test_no_builtin_that_reads_or_writes(self):
        barred = {"open", "input", "print", "eval", "exec", "compile", "globals", "locals", "vars", "round", "float"}
        for name, node in self.nodes():
            if isinstance(node, ast.Name):
                self.assertNotIn(node.id, barred, name)


if __name__ == "__main__":
    unittest.main()
