"""The form of the files of the package: what of it can be seen at a glance."""

import ast
import pathlib
import unittest
import warnings

FOLDER = pathlib.Path(__file__).resolve().parent.parent / "answerpiles"
STAGES = ["errors", "rules", "piles", "rings", "falling", "plays", "given", "counting", "asking",
          "force", "toldback", "texts", "joins", "live", "orders", "slips", "compared",
          "idle", "mends", "sessions", "consoles"]


def files():
    return sorted(path for path in FOLDER.iterdir() if path.name != "__pycache__")


def marked(kind):
    """The (method, decorator over it) of a class."""
    return {(row.name, ast.unparse(mark)) for row in kind.body if isinstance(row, ast.FunctionDef)
            for mark in row.decorator_list}


def lacking_a_setter(trees):
    """The names of the properties that some class has without a setter."""
    found = set()
    for tree in trees:
        for kind in ast.walk(tree):
            if isinstance(kind, ast.ClassDef):
                pairs = marked(kind)
                found |= {name for name, mark in pairs if mark == "property" and (name, f"{name}.setter") not in pairs}
    return found


def assigned_attributes(tree):
    """The (row, name) of all attributes that are assigned, in whatever way."""
    found = []
    for node in ast.walk(tree):
        if isinstance(node, ast.Attribute) and isinstance(node.ctx, ast.Store):
            found.append((node.lineno, node.attr))
        if isinstance(node, ast.Call) and ast.unparse(node.func) == "setattr":
            found.append((node.lineno, node.args[1].value))
    return sorted(found)


def wrongly_assigned(texts):
    """The (file, row, name) of the attributes assigned against L5 Properties, of files by their names."""
    trees = {name: ast.parse(text) for name, text in texts.items()}
    lacking = lacking_a_setter(trees.values())
    return [(name, row, attribute) for name, tree in trees.items()
            for row, attribute in assigned_attributes(tree) if attribute in lacking]


class FormTest(unittest.TestCase):
    def test_only_plain_files(self):
        for path in files():
            self.assertEqual(path.suffix, ".py")
        for name in STAGES + ["__init__"]:
            self.assertIn(FOLDER / f"{name}.py", files())

    def test_sizes_and_characters(self):
        for path in files():
            lines = path.read_text(encoding="utf-8").split("\n")
            self.assertLessEqual(len(lines), 399, path.name)
            for line in lines:
                self.assertLessEqual(len(line), 120, path.name)
                self.assertTrue(all(" " <= letter <= "~" for letter in line), path.name)

    def test_functions_and_imports(self):
        for path in files():
            with warnings.catch_warnings():
                warnings.simplefilter("error")
                tree = ast.parse(path.read_text(encoding="utf-8"))
            for node in ast.walk(tree):
                if isinstance(node, ast.FunctionDef):
                    self.assertLessEqual(node.end_lineno - node.lineno + 1, 40, node.name)
                if isinstance(node, ast.ImportFrom):
                    self.assertTrue(node.module.startswith("answerpiles.") or node.module == "heapq")
                self.assertNotIsInstance(node, (ast.Import, ast.Global))

    def test_properties_without_a_setter_are_not_assigned(self):
        """L5 Properties: a property is assigned only if every class with one of its name has its setter."""
        self.assertEqual(wrongly_assigned({path.name: path.read_text(encoding="utf-8") for path in files()}), [])


TOLD = """
class Told:
    @property
    def rules(self):
        return self._rules
"""
SET = """
class Set:
    @property
    def rules(self):
        return self._rules

    @rules.setter
    def rules(self, value):
        self._rules = value
"""


class AssignedTest(unittest.TestCase):
    """What the look at assigned properties finds, and what it lets be."""

    def check(self, row, *kinds, wanted):
        texts = {f"{at}.py": kind for at, kind in enumerate(kinds)}
        texts["row.py"] = f"def made(box, boxes, value):\n    {row}\n"
        self.assertEqual(wrongly_assigned(texts), [("row.py", 2, "rules")] if wanted else [], row)

    def test_each_way_to_assign(self):
        for row in ["box.rules = value", "box.rules += value", "box.rules: int = value", "value = box.rules = 1",
                    "value, (box.rules, *_) = boxes", "*box.rules, value = boxes", "boxes[0].rules = value",
                    "box.inner.rules = value", "for box.rules in boxes: pass", "for _, box.rules in boxes: pass",
                    "with value as box.rules: pass", "setattr(box, 'rules', value)"]:
            self.check(row, TOLD, wanted=True)
            # One class without its setter is enough, in whatever file, ahead or behind.
            self.check(row, TOLD, SET, wanted=True)
            self.check(row, SET, TOLD, wanted=True)
            self.check(row, SET, wanted=False)
            self.check(row, wanted=False)

    def test_rows_that_assign_no_such_attribute(self):
        for row in ["value = box.rules", "rules = value", "box._rules = value", "box.table = box.rules",
                    "box.rules.plan = value", "box.rules[0] = value", "box.made(rules=value)",
                    "setattr(box, 'table', value)", "return [rules for rules in boxes]"]:
            self.check(row, TOLD, wanted=False)

    def test_in_the_class_itself_and_beside_it(self):
        own = TOLD + "\n    def __init__(self, rules):\n        self.rules = rules\n"
        other = "class Other:\n    def __init__(self, rules):\n        self.rules = rules\n"
        self.assertEqual(wrongly_assigned({"own.py": own}), [("own.py", 8, "rules")])
        self.assertEqual(wrongly_assigned({"other.py": other, "told.py": TOLD}), [("other.py", 3, "rules")])
        self.assertEqual(wrongly_assigned({"other.py": other, "set.py": SET}), [])
        self.assertEqual(wrongly_assigned({"other.py": other}), [])
        # A method of this name, or one under another decorator, is no property.
        for text in [TOLD.replace("    @property\n", ""), TOLD.replace("property", "staticmethod")]:
            self.assertEqual(wrongly_assigned({"other.py": other, "told.py": text}), [])

    def test_a_setter_is_of_its_own_name(self):
        several = SET + "\n    @property\n    def table(self):\n        return None\n"
        rows = "def made(box):\n    box.rules = 1\n    box.table = 2\n"
        self.assertEqual(wrongly_assigned({"rows.py": rows, "several.py": several}), [("rows.py", 3, "table")])
