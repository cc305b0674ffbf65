"""Words, deeds and wakings [2] [4] [5]."""

import unittest

from answerpiles.errors import BadDeed, BadWaking
from answerpiles.rules import Deed, Waking, is_word

from helps import odd_but, raises

MANY = ["a", "b", "c", "d", "e", "f"]


class WordsTest(unittest.TestCase):
    def test_words(self):
        for value in ["a", "z", "goal", "abcdefgh"]:
            self.assertIs(is_word(value), True)
        for value in ["", "abcdefghi", "A", "aB", "a b", "a1", "a\n", "\u00e4", "a_", " a", "-"]:
            self.assertIs(is_word(value), False)
        for value in odd_but("a", "first"):
            self.assertIs(is_word(value), False)


class DeedTest(unittest.TestCase):
    def test_defaults(self):
        deed = Deed("a")
        self.assertEqual((deed.word, deed.opens, deed.whose, deed.card), ("a", False, "any", True))
        self.assertEqual((deed.answers, deed.goals, deed.steps), ([], [], []))
        self.assertEqual((deed.asks, deed.pays, deed.act), ({}, {}, "stay"))
        self.assertEqual(deed.all_marks(), [])

    def test_parts_are_told(self):
        deed = Deed("strike", opens=True, answers=("b", "a"), whose="own", asks={"n": 3, "m": 1},
                    pays={"z": 2, "k": 1}, card=False, goals=["y", "x"],
                    steps=(("more", "goal"), ("less", "w"), ("more", "x"), ("again",)))
        self.assertEqual(deed.answers, ["a", "b"])
        self.assertEqual(list(deed.asks.items()), [("m", 1), ("n", 3)])
        self.assertEqual(list(deed.pays.items()), [("k", 1), ("z", 2)])
        self.assertEqual(deed.goals, ["x", "y"])
        self.assertEqual(deed.steps, [("more", "goal"), ("less", "w"), ("more", "x"), ("again",)])
        self.assertEqual(deed.act, "again")
        self.assertEqual(deed.all_marks(), ["k", "m", "n", "w", "x", "y", "z"])
        self.assertIs(deed.opens, True)
        self.assertIs(deed.card, False)

    def test_acts(self):
        for act in ["strike", "again", "turn"]:
            self.assertEqual(Deed("a", steps=[(act,)]).act, act)
        self.assertEqual(Deed("a", steps=[("more", "m")]).act, "stay")

    def test_marks_without_the_word_goal(self):
        self.assertEqual(Deed("goal", goals=["m"], steps=[("less", "goal")]).all_marks(), ["m"])

    def test_as_much_as_can_be(self):
        Deed("a", answers=MANY)
        Deed("abcdefgh", asks={"k": 1, "m": 2, "n": 3}, pays={"k": 3, "m": 2, "n": 1})
        Deed("a", goals=["m", "n"], steps=[("more", "m")] * 3 + [("turn",)])

    def wrong(self, part, values):
        for value in values:
            with raises(self, BadDeed, "part", part):
                Deed(**{"word": "a", part: value})

    def test_wrong_word(self):
        self.wrong("word", odd_but("a", "first") + ["abcdefghi"])

    def test_wrong_opens_and_card(self):
        self.wrong("opens", odd_but(True, False))
        self.wrong("card", odd_but(True, False))

    def test_wrong_answers(self):
        self.wrong("answers", odd_but([], ()))
        self.wrong("answers", [["a", "a"], MANY + ["g"], ["A"], "ab", {"a": 1}, ["a", True],
                               [["a"]], iter(["a"]), {"a"}])

    def test_wrong_whose(self):
        self.wrong("whose", odd_but() + ["next", ["any"]])

    def test_wrong_asks_and_pays(self):
        for part in ["asks", "pays"]:
            self.wrong(part, odd_but(None, {}, {"a": 1}))
            self.wrong(part, [{"m": 0}, {"m": 4}, {"m": -1}, {"m": True}, {"m": 1.0}, {"m": "1"},
                              {"goal": 1}, {"M": 1}, {None: 1}, {("m",): 1}, [("m", 1)],
                              {"k": 1, "m": 1, "n": 1, "o": 1}])

    def test_wrong_goals(self):
        self.wrong("goals", odd_but([], ()))
        self.wrong("goals", [["m", "m"], ["k", "m", "n"], ["goal"], ["m", "goal"], "m", ["M"]])

    def test_wrong_steps(self):
        self.wrong("steps", odd_but([], ()))
        self.wrong("steps", [
            [("more", "m")] * 5, [("more", "goal")], [("less", "goal")], [("more",)], [("stay",)],
            [("strike",), ("more", "m")], [("turn",), ("turn",)], [["more", "m"]], ["more"],
            [("more", "M")], [("more", "m", "n")], [("again", "m")], [("raise", "m")], [()],
            [("more", None)], [(["more"], "m")], [("more", ["m"])], ("strike",), [("strike")],
            [(None,)], [([],)],
        ])

    def test_first_wrong_part(self):
        wrong = {"word": "A", "opens": 1, "answers": "a", "whose": "all", "asks": [], "pays": 0,
                 "card": None, "goals": "m", "steps": None}
        while wrong:
            with raises(self, BadDeed, "part", list(wrong)[0]):
                Deed(**{"word": "a", **wrong})
            del wrong[list(wrong)[0]]

    def test_equal(self):
        parts = {"word": "a", "opens": True, "answers": ["a", "b"], "whose": "own",
                 "asks": {"m": 1, "n": 2}, "pays": {"m": 1}, "card": False, "goals": ["m", "n"],
                 "steps": [("more", "m"), ("less", "m")]}
        others = {"word": "b", "opens": False, "answers": ["a"], "whose": "other",
                  "asks": {"m": 1}, "pays": {"m": 2}, "card": True, "goals": ["m"],
                  "steps": [("less", "m"), ("more", "m")]}
        one = Deed(**parts)
        turned = dict(parts, answers=("b", "a"), asks={"n": 2, "m": 1}, goals=("n", "m"))
        self.assertTrue(one == Deed(**turned))
        self.assertFalse(one != Deed(**turned))
        for part in others:
            self.assertFalse(one == Deed(**dict(parts, **{part: others[part]})), part)
        for value in odd_but() + [Waking("done", "a", "a")]:
            self.assertIs(one == value, False)

    def test_caller_may_change_what_was_given_and_told(self):
        answers, goals, asks, pays = ["a"], ["m"], {"m": 1}, {"n": 1}
        steps = [("more", "goal")]
        deed = Deed("a", answers=answers, goals=goals, asks=asks, pays=pays, steps=steps)
        same = Deed("a", answers=["a"], goals=["m"], asks={"m": 1}, pays={"n": 1},
                    steps=[("more", "goal")])
        for _ in range(2):
            for row in [answers, goals, steps]:
                row.append("b")
            asks["k"] = 3
            pays.clear()
            self.assertEqual(deed, same)
            self.assertEqual((deed.answers, deed.goals), (["a"], ["m"]))
            self.assertEqual((deed.asks, deed.pays), ({"m": 1}, {"n": 1}))
            self.assertEqual(deed.steps, [("more", "goal")])
            self.assertEqual(deed.all_marks(), ["m", "n"])
            answers, goals, asks, pays = deed.answers, deed.goals, deed.asks, deed.pays
            steps = deed.steps
            deed.all_marks().clear()

    def test_by_name_only(self):
        with self.assertRaises(TypeError):
            Deed("a", True)


class WakingTest(unittest.TestCase):
    def test_parts(self):
        waking = Waking("done", "a", "b")
        self.assertEqual((waking.event, waking.deed, waking.call), ("done", "a", "b"))
        self.assertEqual((waking.by, waking.may), ("own", False))
        waking = Waking("instead", deed="abcdefgh", call="a", by="next", may=True)
        self.assertEqual((waking.event, waking.deed, waking.call), ("instead", "abcdefgh", "a"))
        self.assertEqual((waking.by, waking.may), ("next", True))
        for event in ["laid", "struck"]:
            self.assertEqual(Waking(event, "a", "a").event, event)

    def test_wrong_parts(self):
        right = {"event": "done", "deed": "a", "call": "b"}
        values = {
            "event": odd_but() + ["strike", "Done", ["done"]],
            "deed": odd_but("a", "first") + ["abcdefghi"],
            "call": odd_but("a", "first") + ["B"],
            "by": odd_but() + ["other", ["own"]],
            "may": odd_but(True, False),
        }
        for part, wrong in values.items():
            for value in wrong:
                with raises(self, BadWaking, "part", part):
                    Waking(**dict(right, **{part: value}))

    def test_first_wrong_part(self):
        wrong = {"event": 1, "deed": 2, "call": 3, "by": 4, "may": 5}
        right = {"event": "done", "deed": "a", "call": "b"}
        while wrong:
            with raises(self, BadWaking, "part", list(wrong)[0]):
                Waking(**dict(right, **wrong))
            del wrong[list(wrong)[0]]

    def test_equal(self):
        parts = {"event": "done", "deed": "a", "call": "b", "by": "own", "may": False}
        others = {"event": "laid", "deed": "c", "call": "c", "by": "next", "may": True}
        self.assertTrue(Waking(**parts) == Waking(**parts))
        for part in others:
            self.assertFalse(Waking(**parts) == Waking(**dict(parts, **{part: others[part]})))
        for value in odd_but() + [Deed("a")]:
            self.assertIs(Waking(**parts) == value, False)

    def test_by_name_only(self):
        with self.assertRaises(TypeError):
            Waking("done", "a", "b", "own")
