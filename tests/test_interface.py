"""The names, arguments and defaults of the interface, and where they are defined."""

import inspect
import unittest

from answerpiles import falling, given, piles, plays, rings, rules

DEED = ("(word, *, opens=False, answers=(), whose='any', asks=None, pays=None, card=True, "
        "goals=(), steps=())")
FUNCTIONS = {
    rules: {"is_word": "(value)"},
    rings: {"is_ring": "(rules, value)"},
    falling: {"paper_of": "(rules, *, everywhere=False)",
              "is_paper": "(rules, value, *, everywhere=False)", "pays_down": "(rules)"},
    plays: {"play_text": "(moves)", "read_play": "(text)"},
}
CLASSES = {
    rules.Deed: {"": DEED, "all_marks": "(self)", "__eq__": None},
    rules.Waking: {"": "(event, deed, call, *, by='own', may=False)", "__eq__": None},
    rules.Rules: {
        "": "(marks, deeds, wakings=(), *, seats=2, order='first', start=None)",
        "words": "(self)", "tables": "(self)", "is_table": "(self, value)",
        "count": "(self, table, mark)", "__getitem__": None, "__contains__": None,
        "__len__": None, "__or__": None, "__eq__": None,
        "changed": "(self, *, deeds=None, wakings=None, order=None, start=None)",
    },
    piles.State: {
        "": "(rules, table=None, pile=(), *, hands=None)", "lays": "(self)", "dones": "(self)",
        "moves": "(self)", "after": "(self, move)", "played": "(self, moves)", "__len__": None,
        "__eq__": None,
    },
    rings.Outlook: {
        "": "(rules, *, everywhere=False)", "places": "(self)", "ends": "(self, place)",
        "__call__": "(self, place)", "calm_ends": "(self, place)", "results": "(self)",
        "never": "(self, *, calm=False)", "play_to": "(self, place)", "ring": "(self)",
        "__len__": None, "__contains__": None,
    },
    given.Given: {
        "": "(rules, hands, *, table=None)", "results": "(self)", "left": "(self, table)",
        "many": "(self)", "shortest": "(self, table)", "plays": "(self, most)", "__len__": None,
    },
}
PROPERTIES = {
    rules.Deed: ["answers", "goals", "steps", "asks", "pays", "act"],
    rules.Rules: ["marks", "deeds", "wakings", "seats", "order", "start"],
    piles.State: ["pile", "hands", "is_over"],
    given.Given: ["is_endless"],
}
GENERATORS = [(piles.State, "lays"), (piles.State, "dones"), (given.Given, "plays")]


class InterfaceTest(unittest.TestCase):
    def test_functions(self):
        for module, names in FUNCTIONS.items():
            for name, wanted in names.items():
                function = getattr(module, name)
                self.assertEqual(str(inspect.signature(function)), wanted, name)
                self.assertEqual(function.__module__, module.__name__)

    def test_classes(self):
        for kind, names in CLASSES.items():
            for name, wanted in names.items():
                if name == "":
                    self.assertEqual(str(inspect.signature(kind)), wanted, kind)
                    continue
                self.assertIn(name, vars(kind))
                if wanted is not None:
                    self.assertEqual(str(inspect.signature(vars(kind)[name])), wanted, name)

    def test_modules_of_classes(self):
        self.assertEqual([kind.__module__ for kind in CLASSES], [
            "answerpiles.rules", "answerpiles.rules", "answerpiles.rules", "answerpiles.piles",
            "answerpiles.rings", "answerpiles.given"])

    def test_class_method(self):
        self.assertIsInstance(vars(piles.State)["with_all"], classmethod)
        self.assertEqual(str(inspect.signature(piles.State.with_all)), "(rules, number)")

    def test_properties(self):
        for kind, names in PROPERTIES.items():
            for name in names:
                self.assertIsInstance(vars(kind)[name], property)

    def test_generators(self):
        for kind, name in GENERATORS:
            self.assertTrue(inspect.isgeneratorfunction(vars(kind)[name]))

    def test_attributes(self):
        deed, waking = rules.Deed("a"), rules.Waking("done", "a", "a")
        state = piles.State(rules.Rules({}, [deed]))
        self.assertTrue({"word", "opens", "whose", "card"} <= set(vars(deed)))
        self.assertTrue({"event", "deed", "call", "by", "may"} <= set(vars(waking)))
        self.assertTrue({"rules", "table"} <= set(vars(state)))
