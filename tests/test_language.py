"""Rules of the language that can be seen in the files of the package."""

import ast
import pathlib
import unittest

PACKAGE = pathlib.Path(__file__).resolve().parent.parent / "behindtaps"
LIBRARY = {"heapq": {"heappush", "heappop", "heapify", "heapreplace", "heappushpop"},
           "math": {"gcd", "lcm", "isqrt", "comb", "perm", "factorial"},
           "itertools": {"product", "combinations", "permutations", "chain", "accumulate", "pairwise", "islice",
                         "zip_longest"},
           "collections": {"defaultdict"}}
BARRED_NODES = (ast.Global, ast.AsyncFunctionDef, ast.Await, ast.AsyncFor, ast.AsyncWith, ast.Div, ast.MatMult, ast.Import)
BARRED_NAMES = {"eval", "exec", "compile", "open", "input", "print", "float", "complex", "round", "hash", "id", "type", "vars",
                "dir", "globals", "locals", "object", "chr", "format", "filter", "slice", "memoryview", "bytearray",
                "hex", "oct", "bin", "delattr", "callable", "issubclass", "ascii", "aiter", "anext", "breakpoint"}


def files():
    return sorted(PACKAGE.rglob("*.py"))


def trees():
    for path in files():
        yield path.name, ast.parse(path.read_text(encoding="utf-8"))


class LanguageTest(unittest.TestCase):
    def test_the_folder_has_python_files_alone(self):
        for path in PACKAGE.rglob("*"):
            if "__pycache__" not in path.parts:
                self.assertEqual(path.suffix, ".py", path)

    def test_sizes_and_signs(self):
        for path in files():
            text = path.read_text(encoding="utf-8")
            lines = text.split("\n")
            self.assertLessEqual(len(lines) - 1, 399, path)
            self.assertTrue(all(len(line) <= 120 for line in lines), path)
            self.assertTrue(all(sign == "\n" or " " <= sign <= "~" for sign in text), path)

    def test_functions_have_at_most_40_lines(self):
        for name, tree in trees():
            for node in ast.walk(tree):
                if isinstance(node, ast.FunctionDef):
                    self.assertLessEqual(node.end_lineno - node.lineno + 1, 40, (name, node.name))

    def test_imports(self):
        for name, tree in trees():
            for node in ast.walk(tree):
                if isinstance(node, ast.ImportFrom):
                    self.assertEqual(node.level, 0, name)
                    self.assertTrue(all(one.asname is None and one.name != "*" for one in node.names), name)
                    if not node.module.startswith("behindtaps."):
                        self.assertLessEqual({one.name for one in node.names}, LIBRARY.get(node.module, set()), name)
                    else:
                        self.assertTrue((PACKAGE / f"{node.module.partition('.')[2]}.py").exists(), name)

    def test_what_does_not_occur(self):
        for name, tree in trees():
            for node in ast.walk(tree):
                self.assertNotIsInstance(node, BARRED_NODES, name)
                if isinstance(node, ast.Constant):
                    self.assertNotIsInstance(node.value, (float, complex), name)
                    if isinstance(node.value, str):
                        self.assertNotIn("%", node.value, name)
                if isinstance(node, ast.Name):
                    self.assertNotIn(node.id, BARRED_NAMES, name)

    def test_no_state_at_module_level(self):
        allowed = (ast.ImportFrom, ast.FunctionDef, ast.ClassDef, ast.Assign, ast.Expr)
        for name, tree in trees():
            for node in tree.body:
                self.assertIsInstance(node, allowed, name)
                if isinstance(node, ast.Assign):
                    self.assertEqual(len(node.targets), 1, name)
                    self.assertIsInstance(node.targets[0], ast.Name, name)


if __name__ == "__main__":
    unittest.main()
