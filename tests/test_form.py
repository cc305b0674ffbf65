"""The form of the files of the package: what of it can be seen at a glance."""

import ast
import pathlib
import unittest
import warnings

FOLDER = pathlib.Path(__file__).resolve().parent.parent / "answerpiles"
STAGES = ["errors", "rules", "piles", "rings", "falling", "plays", "given", "counting", "asking",
          "force", "toldback", "texts", "joins", "live", "orders", "slips", "compared",
          "idle", "mends", "sessions", "consoles"]


def files():
    return sorted(path for path in FOLDER.iterdir() if path.name != "__pycache__")


class FormTest(unittest.TestCase):
    def test_only_plain_files(self):
        for path in files():
            self.assertEqual(path.suffix, ".py")
        for name in STAGES + ["__init__"]:
            self.assertIn(FOLDER / f"{name}.py", files())

    def test_sizes_and_characters(self):
        for path in files():
            lines = path.read_text(encoding="utf-8").split("\n")
            self.assertLessEqual(len(lines), 399, path.name)
            for line in lines:
                self.assertLessEqual(len(line), 120, path.name)
                self.assertTrue(all(" " <= letter <= "~" for letter in line), path.name)

    def test_functions_and_imports(self):
        for path in files():
            with warnings.catch_warnings():
                warnings.simplefilter("error")
                tree = ast.parse(path.read_text(encoding="utf-8"))
            for node in ast.walk(tree):
                if isinstance(node, ast.FunctionDef):
                    self.assertLessEqual(node.end_lineno - node.lineno + 1, 40, node.name)
                if isinstance(node, ast.ImportFrom):
                    self.assertTrue(node.module.startswith("answerpiles.") or node.module == "heapq")
                self.assertNotIsInstance(node, (ast.Import, ast.Global))
