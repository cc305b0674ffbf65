"""The names, arguments and defaults of the interface, and where they are defined."""

import inspect
import unittest

from answerpiles import asking, compared, consoles, counting, errors, falling, force, given, idle, joins
from answerpiles import live, mends, orders, piles, plays, rings, rules, sessions, slips, texts, toldback

DEED = ("(word, *, opens=False, answers=(), whose='any', asks=None, pays=None, card=True, "
        "goals=(), steps=())")
FUNCTIONS = {
    rules: {"is_word": "(value)"},
    rings: {"is_ring": "(rules, value)"},
    falling: {"paper_of": "(rules, *, everywhere=False)",
              "is_paper": "(rules, value, *, everywhere=False)", "pays_down": "(rules)"},
    plays: {"play_text": "(moves)", "read_play": "(text)"},
    counting: {"count_plays": "(given, moves)", "count_without": "(given, moves, word)",
               "play_at": "(given, moves, number)", "rank_of": "(given, play)"},
    asking: {"is_position": "(rules, value)"},
    texts: {"rules_text": "(rules)", "read_rules": "(text)"},
    joins: {"are_apart": "(one, other)", "joined_paper": "(one, other, paper, more)",
            "parts_of": "(rules)", "only": "(rules, words)", "endless_parts": "(rules)",
            "results_of_parts": "(rules)"},
    orders: {"readings": "(rules)", "event_ends": "(rules, event, word, table)",
             "order_counts": "(rules, event, word, table)", "where_order_counts": "(rules)",
             "parted_reading": "(rules)", "is_parted_reading": "(rules, value)"},
    slips: {"slips": "(rules)", "slip_play": "(rules, word, kind, fail)",
            "is_slip": "(rules, word, kind, fail, value)"},
    compared: {"endings": "(rules)", "within": "(one, other)", "alike": "(one, other)",
               "parting": "(one, other)", "is_parting": "(one, other, value)"},
    idle: {"unlaid": "(rules, *, everywhere=False)", "unwoken": "(rules, *, everywhere=False)",
           "needless": "(rules)", "vain_mays": "(rules)", "without": "(rules, part)",
           "bare": "(rules)", "odds": "(rules, number)"},
    mends: {"mended": "(rules, repairs)", "card_sets": "(rules)"},
    sessions: {"attempted": "(session, changes, *, fast=False)"},
}
CLASSES = {
    rules.Deed: {"": DEED, "all_marks": "(self)", "__eq__": None},
    rules.Waking: {"": "(event, deed, call, *, by='own', may=False)", "__eq__": None},
    rules.Rules: {
        "": "(marks, deeds, wakings=(), *, seats=2, order='first', start=None)",
        "words": "(self)", "tables": "(self)", "is_table": "(self, value)",
        "count": "(self, table, mark)", "__getitem__": None, "__contains__": None,
        "__len__": None, "__or__": None, "__eq__": None,
        "changed": "(self, *, deeds=None, wakings=None, order=None, start=None)",
    },
    piles.State: {
        "": "(rules, table=None, pile=(), *, hands=None)", "lays": "(self)", "dones": "(self)",
        "moves": "(self)", "after": "(self, move)", "played": "(self, moves)", "__len__": None,
        "__eq__": None,
    },
    rings.Outlook: {
        "": "(rules, *, everywhere=False)", "places": "(self)", "ends": "(self, place)",
        "__call__": "(self, place)", "calm_ends": "(self, place)", "results": "(self)",
        "never": "(self, *, calm=False)", "play_to": "(self, place)", "ring": "(self)",
        "__len__": None, "__contains__": None,
    },
    given.Given: {
        "": "(rules, hands, *, table=None)", "results": "(self)", "left": "(self, table)",
        "many": "(self)", "shortest": "(self, table)", "plays": "(self, most)", "__len__": None,
    },
    force.Game: {
        "": "(rules, hands, *, table=None, asking='again')", "__len__": None, "__contains__": None,
        "positions": "(self)", "mover": "(self, position)", "moves": "(self, position)",
        "after": "(self, position, move)", "wins": "(self, wish, friends)",
        "way": "(self, wish, friends)", "shows": "(self, wish, friends, paper)",
        "guard": "(self, wish, friends)", "holds_off": "(self, wish, friends, paper)",
        "greatest": "(self, mark, friends)", "passed_over": "(self)",
    },
    toldback.Told: {
        "": "(given, seen)", "__len__": None, "stories": "(self, most=1000)", "tops": "(self, at)",
        "tables": "(self, at)", "laid": "(self)", "surely_laid": "(self)",
    },
    live.Live: {
        "": "(rules, hands, *, table=None, asking='again')", "__len__": None, "__eq__": None,
        "ask": "(self, reading)", "moves": "(self)", "do": "(self, move)",
        "lay": "(self, word, *, goal=None, calls=())", "pass_on": "(self)",
        "end_top": "(self, way='steps', *, struck=(), calls=())", "passes": "(self, most=1)",
        "tried": "(self, moves)", "undo": "(self)", "redo": "(self)", "played": "(self)",
        "journal": "(self)", "copied": "(self)", "trial": "(self)",
    },
    mends.Mend: {
        "": "(rules, menu, wishes)", "behind": "(self, picks)", "__call__": "(self, picks)",
        "unmet": "(self, picks)", "ring": "(self, picks)", "good": "(self)", "least": "(self)",
        "__len__": None,
    },
    sessions.Session: {
        "": "(rules)", "__getitem__": None, "__setitem__": None, "__contains__": None, "__len__": None,
        "strike": "(self, word)", "wake": "(self, waking)", "hush": "(self, number)", "undo": "(self)",
        "change": "(self, change)", "would_end": "(self, change)",
    },
    sessions.Attempt: {"": "(session)", "__enter__": None, "__exit__": None, "hold_fast": "(self)"},
    consoles.Console: {"": "(rules)", "execute": "(self, line)", "__call__": "(self, line)", "__len__": None},
}
PROPERTIES = {
    rules.Deed: ["answers", "goals", "steps", "asks", "pays", "act"],
    rules.Rules: ["marks", "deeds", "wakings", "seats", "order", "start"],
    piles.State: ["rules", "pile", "hands", "is_over"],
    given.Given: ["rules", "is_endless"],
    toldback.Told: ["amount"],
    live.Live: ["position", "state", "asked", "is_over", "asking"],
    sessions.Session: ["rules", "reading"],
    consoles.Console: ["rules"],
}
CAN_BE_SET = [(live.Live, "asking"), (sessions.Session, "reading")]
GENERATORS = [(piles.State, "lays"), (piles.State, "dones"), (given.Given, "plays"),
              (toldback.Told, "stories"), (mends.Mend, "good")]


class InterfaceTest(unittest.TestCase):
    def test_functions(self):
        for module, names in FUNCTIONS.items():
            for name, wanted in names.items():
                function = getattr(module, name)
                self.assertEqual(str(inspect.signature(function)), wanted, name)
                self.assertEqual(function.__module__, module.__name__)

    def test_classes(self):
        for kind, names in CLASSES.items():
            for name, wanted in names.items():
                if name == "":
                    self.assertEqual(str(inspect.signature(kind)), wanted, kind)
                    continue
                self.assertIn(name, vars(kind))
                if wanted is not None:
                    self.assertEqual(str(inspect.signature(vars(kind)[name])), wanted, name)

    def test_modules_of_classes(self):
        self.assertEqual([kind.__module__ for kind in CLASSES], [
            "answerpiles.rules", "answerpiles.rules", "answerpiles.rules", "answerpiles.piles",
            "answerpiles.rings", "answerpiles.given", "answerpiles.force", "answerpiles.toldback",
            "answerpiles.live", "answerpiles.mends", "answerpiles.sessions", "answerpiles.sessions",
            "answerpiles.consoles"])

    def test_class_method(self):
        self.assertIsInstance(vars(piles.State)["with_all"], classmethod)
        self.assertEqual(str(inspect.signature(piles.State.with_all)), "(rules, number)")

    def test_static_method(self):
        self.assertIsInstance(vars(live.Live)["read"], staticmethod)
        self.assertEqual(str(inspect.signature(live.Live.read)),
                         "(rules, hands, text, *, table=None, asking='again')")

    def test_the_properties_that_can_be_set(self):
        for kind, names in PROPERTIES.items():
            for name in names:
                can_be_set = vars(kind)[name].fset is not None
                self.assertIs(can_be_set, (kind, name) in CAN_BE_SET, name)

    def test_properties(self):
        for kind, names in PROPERTIES.items():
            for name in names:
                self.assertIsInstance(vars(kind)[name], property)

    def test_generators(self):
        for kind, name in GENERATORS:
            self.assertTrue(inspect.isgeneratorfunction(vars(kind)[name]))
        self.assertTrue(inspect.isgeneratorfunction(orders.where_order_counts))

    def test_attributes(self):
        deed, waking = rules.Deed("a"), rules.Waking("done", "a", "a")
        state = piles.State(rules.Rules({}, [deed]))
        self.assertTrue({"word", "opens", "whose", "card"} <= set(vars(deed)))
        self.assertTrue({"event", "deed", "call", "by", "may"} <= set(vars(waking)))
        self.assertIn("table", vars(state))
        game = force.Game(state.rules, [{}, {}])
        self.assertIn("first", vars(game))

    def test_wrong_rules_everywhere(self):
        """Each function and class raises BadRules for an argument called rules, one or other."""
        for module in [compared, falling, idle, joins, mends, orders, piles, rings, slips, texts, given, force,
                       live, sessions, consoles, asking]:
            for name, thing in vars(module).items():
                if name.startswith("_") or getattr(thing, "__module__", "") != module.__name__:
                    continue
                told = {**FUNCTIONS.get(module, {}), **{kind.__name__: names[""] for kind, names in CLASSES.items()}}
                if not told.get(name, "").startswith(("(rules", "(one")) or name == "is_ring":
                    continue
                needed = [one for one in inspect.signature(thing).parameters.values() if one.default is one.empty]
                with self.assertRaises(errors.BadRules) as caught:
                    if inspect.isgeneratorfunction(thing):
                        next(thing("none"))
                    thing(*["none" for _ in needed])
                self.assertEqual(caught.exception.part, "none", name)
