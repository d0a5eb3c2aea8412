"""The package keeps to its limits of size, signs and imports."""

import ast
import pathlib
import unittest

LIBRARY = ("__future__", "heapq", "math", "itertools", "collections")
PACKAGE = pathlib.Path(__file__).resolve().parent.parent / "cordsounds"


def files():
    return sorted(PACKAGE.rglob("*.py"))


class LimitsTest(unittest.TestCase):
    def test_the_folder_holds_modules_alone(self):
        others = [path for path in PACKAGE.rglob("*")
                  if path.is_file() and path.suffix != ".py" and "__pycache__" not in path.parts]
        self.assertEqual(others, [])
        self.assertTrue((PACKAGE / "__init__.py").is_file())

    def test_lines(self):
        for path in files():
            text = path.read_text(encoding="utf-8")
            lines = text.split("\n")
            self.assertLessEqual(len(lines), 399, path.name)
            self.assertTrue(all(sign == "\n" or " " <= sign <= "~" for sign in text), path.name)
            self.assertLessEqual(max(len(line) for line in lines), 120, path.name)

    def test_functions(self):
        for path in files():
            for node in ast.walk(ast.parse(path.read_text(encoding="utf-8"))):
                if isinstance(node, (ast.FunctionDef, ast.Lambda)):
                    self.assertLessEqual(node.end_lineno - node.lineno + 1, 40, path.name)

    def test_imports_are_of_the_package_and_what_else_may_be(self):
        for path in files():
            for node in ast.walk(ast.parse(path.read_text(encoding="utf-8"))):
                self.assertNotIsInstance(node, ast.Import, path.name)
                if isinstance(node, ast.ImportFrom):
                    own = node.level == 0 and node.module.startswith("cordsounds.")
                    self.assertTrue(own or node.module in LIBRARY, path.name)


if __name__ == "__main__":
    unittest.main()
