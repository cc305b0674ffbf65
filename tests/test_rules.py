"""Marks, tables and rules [3] [5]."""

import unittest

from answerpiles.errors import BadRules, BadTable, NotThere
from answerpiles.rules import Deed, Rules, Waking

from helps import odd_but, raises


def two():
    deeds = [Deed("b", opens=True, goals=["m"]), Deed("a", answers=["b"], asks={"n": 3})]
    return Rules({"n": 3, "m": 1}, deeds, [Waking("done", "b", "a")], seats=3, order="any",
                 start={"n": 2})


class RulesTest(unittest.TestCase):
    def test_defaults(self):
        rules = Rules({}, [Deed("a")])
        self.assertEqual((rules.marks, rules.deeds, rules.wakings), ({}, [Deed("a")], []))
        self.assertEqual((rules.seats, rules.order, rules.start), (2, "first", ()))
        self.assertEqual((rules.words(), rules.tables(), len(rules)), (["a"], [()], 1))

    def test_parts_are_told(self):
        rules = two()
        self.assertEqual(list(rules.marks.items()), [("m", 1), ("n", 3)])
        self.assertEqual([deed.word for deed in rules.deeds], ["b", "a"])
        self.assertEqual(rules.wakings, [Waking("done", "b", "a")])
        self.assertEqual((rules.seats, rules.order, rules.start), (3, "any", (0, 2)))
        self.assertEqual((rules.words(), len(rules)), (["a", "b"], 2))
        self.assertEqual(rules.tables(), [(m, n) for m in range(2) for n in range(4)])

    def test_tables(self):
        rules = two()
        for value in [(0, 0), (1, 3)]:
            self.assertIs(rules.is_table(value), True)
        for value in odd_but((0, 0)) + [(2, 0), (0, 4), (-1, 0), (0,), (0, 0, 0), [0, 0],
                                        (True, 0), (0, False), (0, 1.0), ("0", 0), ((), ())]:
            self.assertIs(rules.is_table(value), False)
        self.assertIs(Rules({}, [Deed("a")]).is_table(()), True)
        self.assertIs(Rules({}, [Deed("a")]).is_table([]), False)

    def test_count(self):
        rules = two()
        self.assertEqual((rules.count((1, 3), "m"), rules.count((1, 3), "n")), (1, 3))
        self.assertEqual(rules.count(table=(0, 2), mark="n"), 2)
        for value in odd_but((0, 0)) + [[0, 0], (True, 0)]:
            with raises(self, BadTable, "table", value):
                rules.count(value, "m")
        for value in odd_but() + ["goal", "k", ["m"], ("m",)]:
            with raises(self, NotThere, "word", value):
                rules.count((0, 0), value)
        with raises(self, BadTable, "table", (9, 9)):
            rules.count((9, 9), "k")

    def test_deeds_by_word(self):
        rules = two()
        self.assertEqual(rules["b"], Deed("b", opens=True, goals=["m"]))
        self.assertIs("a" in rules, True)
        for value in odd_but("a") + ["c", "m", ["a"], Deed("a")]:
            self.assertIs(value in rules, False)
            with raises(self, NotThere, "word", value):
                rules[value]
        with self.assertRaises(TypeError):
            iter(rules)

    def test_ends_of_marks(self):
        one = [Deed("a")]
        for marks in [{"m": 1}, {"m": 2}, {"m": 3}, {"m": 3, "n": 3}, {"k": 1, "m": 1, "n": 3},
                      {"k": 1, "m": 1, "n": 1}, {"m": 2, "n": 3}, {}]:
            rules = Rules(marks, one)
            self.assertEqual(rules.marks, marks)
            self.assertLessEqual(len(rules.tables()), 16)
        wrong = odd_but({}, {"a": 1}) + [
            {"m": 0}, {"m": 4}, {"m": True}, {"m": 1.0}, {"m": None}, {"M": 1}, {"goal": 1},
            {("m",): 1}, {"k": 1, "m": 2, "n": 2}, {"k": 1, "m": 1, "n": 1, "o": 1},
            {"k": 3, "m": 3, "n": 1}, [("m", 1)],
        ]
        for value in wrong:
            with raises(self, BadRules, "part", "marks"):
                Rules(value, one)

    def test_deeds(self):
        six = [Deed(word, answers=list("abcdef")) for word in "abcdef"]
        self.assertEqual(len(Rules({}, six)), 6)
        self.assertEqual(Rules({}, tuple(six)).deeds, six)
        wrong = odd_but() + [
            six + [Deed("g")], [Deed("a"), Deed("a", opens=True)], [Deed("a", answers=["b"])],
            ["a"], [Deed("a"), None], Deed("a"), {"a": Deed("a")}, [Waking("done", "a", "a")],
        ]
        for part in [{"asks": {"n": 1}}, {"pays": {"n": 1}}, {"goals": ["n"]},
                     {"goals": ["m", "n"]}, {"steps": [("more", "n")]}, {"steps": [("less", "n")]}]:
            wrong.append([Deed("a", **part)])
        for value in wrong:
            with raises(self, BadRules, "part", "deeds"):
                Rules({"m": 1}, value)
        # What can never be paid may be asked.
        Rules({"m": 1}, [Deed("a", asks={"m": 3}, pays={"m": 2})])

    def test_wakings(self):
        deeds = [Deed("a"), Deed("b")]
        four = [Waking("done", "a", "b"), Waking("done", "a", "b", by="next"),
                Waking("done", "a", "a"), Waking("laid", "a", "b")]
        self.assertEqual(Rules({}, deeds, four).wakings, four)
        self.assertEqual(Rules({}, deeds, tuple(four)).wakings, four)
        wrong = odd_but([], ()) + [
            None, four + [Waking("struck", "a", "b")], [Waking("done", "a", "c")],
            [Waking("done", "c", "a")], [Waking("done", "a", "b"), Waking("done", "a", "b", may=True)],
            [four[0], "done"], four[0],
        ]
        for value in wrong:
            with raises(self, BadRules, "part", "wakings"):
                Rules({}, deeds, value)

    def test_seats_order_and_start(self):
        one = [Deed("a")]
        self.assertEqual([Rules({}, one, seats=many).seats for many in (2, 3)], [2, 3])
        for value in odd_but(2) + [2.0, 4, "2", 1]:
            with raises(self, BadRules, "part", "seats"):
                Rules({}, one, seats=value)
        for order in ["first", "last", "any"]:
            self.assertEqual(Rules({}, one, order=order).order, order)
        for value in odd_but("first") + ["next", ["any"]]:
            with raises(self, BadRules, "part", "order"):
                Rules({}, one, order=value)
        marks = {"m": 1, "a": 3}
        for start, table in [(None, (0, 0)), ({}, (0, 0)), ({"m": 1}, (0, 1)), ({"a": 3}, (3, 0)),
                             ({"m": 0, "a": 2}, (2, 0))]:
            self.assertEqual(Rules(marks, one, start=start).start, table)
        for value in odd_but(None, {}, {"a": 1}) + [{"m": 2}, {"a": 4}, {"m": -1}, {"m": True},
                                                    {"m": 1.0}, {"k": 0}, (0, 0), {"m": None}]:
            with raises(self, BadRules, "part", "start"):
                Rules(marks, one, start=value)

    def test_first_wrong_part(self):
        right = {"marks": {}, "deeds": [Deed("a")]}
        wrong = {"marks": 1, "deeds": 2, "wakings": 3, "seats": 4, "order": 5, "start": 6}
        while wrong:
            with raises(self, BadRules, "part", list(wrong)[0]):
                Rules(**dict(right, **wrong))
            del wrong[list(wrong)[0]]

    def test_changed(self):
        rules = two()
        self.assertEqual(rules.changed(), rules)
        other = rules.changed(order="last", start={"m": 1}, wakings=())
        self.assertEqual((other.order, other.start, other.wakings), ("last", (1, 0), []))
        self.assertEqual((other.deeds, other.seats, other.marks), (rules.deeds, 3, rules.marks))
        self.assertEqual(rules.start, (0, 2))
        self.assertEqual(rules.changed(start={}).start, (0, 0))
        more = rules.deeds + [Deed("c")]
        self.assertEqual(rules.changed(deeds=more).deeds, more)
        for part, value in [("deeds", []), ("deeds", [Deed("a", answers=["b"])]), ("order", 1),
                            ("start", {"m": 2}), ("start", 0), ("wakings", 0)]:
            with raises(self, BadRules, "part", part):
                rules.changed(**{part: value})
        with raises(self, BadRules, "part", "wakings"):
            rules.changed(deeds=[Deed("a")])
        with raises(self, BadRules, "part", "order"):
            rules.changed(order="none", start={"m": 9})
        with raises(self, BadRules, "part", "deeds"):
            rules.changed(deeds=0, wakings=0)
        with self.assertRaises(TypeError):
            rules.changed([])

    def test_equal(self):
        parts = {"marks": {"m": 1}, "deeds": [Deed("a"), Deed("b")],
                 "wakings": [Waking("done", "a", "b"), Waking("done", "b", "a")],
                 "seats": 2, "order": "first", "start": None}
        others = {"marks": {"m": 2}, "deeds": [Deed("b"), Deed("a")],
                  "wakings": [Waking("done", "b", "a"), Waking("done", "a", "b")],
                  "seats": 3, "order": "any", "start": {"m": 1}}
        self.assertTrue(Rules(**parts) == Rules(**dict(parts, start={"m": 0})))
        for part in others:
            self.assertFalse(Rules(**parts) == Rules(**dict(parts, **{part: others[part]})))
        for value in odd_but() + [Deed("a")]:
            self.assertIs(Rules(**parts) == value, False)

    def test_caller_may_change_what_was_given_and_told(self):
        marks, deeds, wakings = {"m": 1}, [Deed("a")], [Waking("done", "a", "a")]
        start = {"m": 1}
        rules = Rules(marks, deeds, wakings, start=start)
        same = Rules({"m": 1}, [Deed("a")], [Waking("done", "a", "a")], start={"m": 1})
        for _ in range(2):
            marks["n"] = 3
            start["m"] = 0
            deeds.append(Deed("b"))
            wakings.clear()
            self.assertEqual(rules, same)
            self.assertEqual((rules.marks, rules.start, len(rules)), ({"m": 1}, (1,), 1))
            marks, deeds, wakings = rules.marks, rules.deeds, rules.wakings
            rules.words().clear()
            rules.tables().clear()
            self.assertEqual((rules.words(), rules.tables()), (["a"], [(0,), (1,)]))


class JoinTest(unittest.TestCase):
    def test_join(self):
        one = Rules({"m": 1, "n": 2}, [Deed("b", goals=["m"])], [Waking("done", "b", "b")],
                    seats=3, order="last", start={"m": 1, "n": 2})
        other = Rules({"k": 1, "m": 1}, [Deed("a"), Deed("c")], [Waking("laid", "c", "a")],
                      seats=3, order="last", start={"k": 1, "m": 1})
        both = one | other
        self.assertEqual(both.marks, {"k": 1, "m": 1, "n": 2})
        self.assertEqual([deed.word for deed in both.deeds], ["b", "a", "c"])
        self.assertEqual(both.wakings, [Waking("done", "b", "b"), Waking("laid", "c", "a")])
        self.assertEqual((both.seats, both.order, both.start), (3, "last", (1, 1, 2)))
        self.assertEqual((one.words(), other.words()), (["b"], ["a", "c"]))

    def test_other_is_no_rules(self):
        for value in odd_but() + [Deed("a")]:
            with raises(self, BadRules, "part", value):
                two() | value

    def test_first_unlike_part(self):
        base = {"marks": {"m": 1}, "deeds": [Deed("a")], "seats": 2, "order": "first",
                "start": {"m": 1}}
        one = Rules(**base)
        # The deeds are alike in word too, which is looked at last.
        others = {"marks": {"m": 2}, "seats": 3, "order": "any", "start": {"m": 0}}
        while others:
            with raises(self, BadRules, "part", list(others)[0]):
                one | Rules(**dict(base, **others))
            del others[list(others)[0]]
        with raises(self, BadRules, "part", "deeds"):
            one | one

    def test_what_cannot_be_together(self):
        def some(marks, words, wakings=()):
            return Rules(marks, [Deed(word) for word in words], wakings)

        with raises(self, BadRules, "part", "marks"):
            some({"k": 1, "m": 1}, "a") | some({"n": 1, "o": 1}, "a")
        with raises(self, BadRules, "part", "marks"):
            some({"k": 3, "m": 1}, "a") | some({"n": 2}, "b")
        with raises(self, BadRules, "part", "deeds"):
            some({}, "abcd") | some({}, "efg")
        with raises(self, BadRules, "part", "deeds"):
            some({}, "ab") | some({}, "cb")
        three = [Waking(event, "a", "a") for event in ["laid", "done", "struck"]]
        more = [Waking(event, "b", "b") for event in ["laid", "done"]]
        with raises(self, BadRules, "part", "wakings"):
            some({}, "a", three) | some({}, "b", more)
        self.assertEqual(len(some({}, "a", three) | some({}, "b", more[:1])), 2)
        self.assertEqual(len(some({}, "abc") | some({}, "def")), 6)
