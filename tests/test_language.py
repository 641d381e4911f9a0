"""The rules of the language that can be read off the files of the package (L1, L2, L6, L10, L14, L27)."""

import ast
import unittest
from pathlib import Path

PACKAGE = Path(__file__).resolve().parent.parent / "roundminutes"
FILES = sorted(PACKAGE.rglob("*.py"))
LIBRARY = ["heapq", "math", "itertools", "collections", "__future__"]


def nodes(path, *kinds):
    return [node for node in ast.walk(ast.parse(path.read_text())) if isinstance(node, kinds)]


class LanguageTest(unittest.TestCase):

    def test_folder_holds_modules_only(self):
        others = [path for path in PACKAGE.rglob("*")
                  if path.is_file() and path.suffix != ".py" and path.parent.name != "__pycache__"]
        self.assertEqual(others, [])
        self.assertIn(PACKAGE / "__init__.py", FILES)

    def test_characters(self):
        for path in FILES:
            strange = [byte for byte in path.read_bytes() if not (32 <= byte <= 126 or byte == 10)]
            self.assertEqual(strange, [], path)

    def test_sizes(self):
        for path in FILES:
            lines = path.read_text().splitlines()
            self.assertLessEqual(len(lines), 399, path)
            self.assertLessEqual(max([len(line) for line in lines], default=0), 120, path)
            for node in nodes(path, ast.FunctionDef):
                self.assertLessEqual(node.end_lineno - node.lineno + 1, 40, (path, node.name))

    def test_imports(self):
        for path in FILES:
            self.assertEqual([node.lineno for node in nodes(path, ast.Import) if path.stem != "__main__"], [], path)
            for node in nodes(path, ast.ImportFrom):
                self.assertEqual(node.level, 0, (path, node.lineno))
                self.assertTrue(node.module in LIBRARY or node.module.startswith("roundminutes."), (path, node.module))

    def test_statements_and_values(self):
        barred = (ast.Global, ast.AsyncFunctionDef, ast.Await, ast.Div)
        for path in FILES:
            self.assertEqual(nodes(path, *barred), [], path)
            for node in nodes(path, ast.Constant):
                self.assertNotIsInstance(node.value, float, (path, node.lineno))
                if isinstance(node.value, str):
                    self.assertNotIn("%", node.value, (path, node.lineno))


if __name__ == "__main__":
    unittest.main()
