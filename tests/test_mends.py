"""Repairs of rules, and the sets of a menu behind which wishes are true [21]."""

import inspect
import itertools
import unittest

from answerpiles.errors import BadArgument, BadChange, BadRules, TooMany
from answerpiles.falling import paper_of
from answerpiles.idle import unlaid
from answerpiles.mends import Mend, card_sets, mended
from answerpiles.rings import Outlook, is_ring
from answerpiles.rules import Deed, Rules, Waking

from helpbig import too_many
from helps import ODD, odd_but, raises
from somerules import lively_rules, made_rules
from test_rings import striking


def whole():
    deeds = [
        Deed("a", opens=True, answers=["b", "a"], whose="own", asks={"n": 1}, pays={"m": 1}, card=False,
             goals=["n", "m"], steps=[("more", "goal"), ("turn",)]),
        Deed("b", opens=True, answers=["a"], pays={"n": 1}), Deed("c", card=False),
    ]
    wakings = [Waking("done", "a", "b", by="next"), Waking("laid", "a", "c", may=True), Waking("struck", "c", "b"),
               Waking("instead", "b", "c", by="next", may=True)]
    return Rules({"m": 2, "n": 1}, deeds, wakings, seats=3, order="any", start={"m": 1})


def all_repairs(rules):
    found = []
    for number, waking in enumerate(rules.wakings):
        found += [("out", number), ("must" if waking.may else "may", number)]
    for deed in rules.deeds:
        found += [("mute", deed.word, other) for other in deed.answers]
        found += [("pay", deed.word, mark) for mark, end in rules.marks.items() if deed.pays.get(mark, 0) < end]
        found += [] if deed.card else [("card", deed.word)]
    return found


def all_sets(many):
    return [picks for size in range(many + 1) for picks in itertools.combinations(range(many), size)]


def rounds():
    """Rules with two rings, each of one deed, and with a waking that is never woken."""
    deeds = [Deed("a", opens=True), Deed("b", answers=["a", "b"], card=False),
             Deed("c", answers=["a", "c"], card=False), Deed("d")]
    return Rules({"m": 1}, deeds, [Waking("done", "d", "d")])


class MendedTest(unittest.TestCase):
    def test_each_repair(self):
        rules = whole()
        a, b, c = rules.deeds
        wakings = rules.wakings
        self.assertEqual(mended(rules, []), rules)
        self.assertEqual(mended(rules, ()), rules)
        self.assertEqual(mended(rules, [("out", 1)]), rules.changed(wakings=wakings[:1] + wakings[2:]))
        may = Waking("done", "a", "b", by="next", may=True)
        self.assertEqual(mended(rules, [("may", 0)]), rules.changed(wakings=[may] + wakings[1:]))
        must = Waking("instead", "b", "c", by="next")
        self.assertEqual(mended(rules, [("must", 3)]), rules.changed(wakings=wakings[:3] + [must]))
        self.assertEqual(mended(rules, [("card", "c")]), rules.changed(deeds=[a, b, Deed("c")]))
        pays = Deed("b", opens=True, answers=["a"], pays={"m": 1, "n": 1})
        self.assertEqual(mended(rules, [("pay", "b", "m")]), rules.changed(deeds=[a, pays, c]))
        mute = Deed("a", opens=True, answers=["a"], whose="own", asks={"n": 1}, pays={"m": 1}, card=False,
                    goals=["n", "m"], steps=[("more", "goal"), ("turn",)])
        self.assertEqual(mended(rules, [("mute", "a", "b")]), rules.changed(deeds=[mute, b, c]))

    def test_all_at_once(self):
        rules = whole()
        repairs = [("out", 2), ("may", 0), ("must", 1), ("out", 1), ("pay", "a", "m"), ("pay", "a", "n"),
                   ("pay", "c", "m"), ("card", "a"), ("mute", "a", "a"), ("mute", "a", "b"), ("out", 3)]
        deeds = [Deed("a", opens=True, whose="own", asks={"n": 1}, pays={"m": 2, "n": 1}, goals=["n", "m"],
                      steps=[("more", "goal"), ("turn",)]),
                 rules.deeds[1], Deed("c", card=False, pays={"m": 1})]
        wanted = rules.changed(deeds=deeds, wakings=[Waking("done", "a", "b", by="next", may=True)])
        for order in [repairs, repairs[::-1], tuple(repairs), repairs[5:] + repairs[:5]]:
            self.assertEqual(mended(rules, order), wanted)

    def test_out_and_may_at_once(self):
        rules = whole()
        for repairs in [[("out", 0), ("may", 0)], [("may", 0), ("out", 0)]]:
            self.assertEqual(mended(rules, repairs), rules.changed(wakings=rules.wakings[1:]))
        # Numbers are those of the rules as they were.
        self.assertEqual(mended(rules, [("out", 0), ("out", 1), ("must", 3)]).wakings,
                         [rules.wakings[2], Waking("instead", "b", "c", by="next")])

    def test_pays_up_to_the_end(self):
        for end in [1, 2, 3]:
            for count in range(1, end):
                rules = Rules({"m": end}, [Deed("a", opens=True, pays={"m": count})])
                self.assertEqual(mended(rules, [("pay", "a", "m")]).deeds[0].pays, {"m": count + 1})
            full = Rules({"m": end}, [Deed("a", opens=True, pays={"m": end})])
            with raises(self, BadChange, "value", [("pay", "a", "m")]):
                mended(full, [("pay", "a", "m")])
        two = Rules({"m": 2}, [Deed("a"), Deed("b", pays={"m": 1})])
        found = mended(two, [("pay", "b", "m"), ("pay", "a", "m")])
        self.assertEqual([deed.pays for deed in found.deeds], [{"m": 1}, {"m": 2}])

    def test_wrong_repairs(self):
        rules = whole()
        wrong = [
            ("out", 4), ("out", -1), ("out", True), ("out", 0.0), ("out", "0"), ("out",), ("out", 0, 0), ["out", 0],
            ("may", 1), ("may", 3), ("may", 4), ("may", False), ("must", 0), ("must", 2), ("must", True),
            ("card", "b"), ("card", "d"), ("card", 0), ("card", ["a"]), ("card", "a", "a"),
            ("pay", "b", "n"), ("pay", "b", "k"), ("pay", "d", "m"), ("pay", "b", "goal"), ("pay", "b"),
            ("pay", "b", ["m"]), ("pay", ["b"], "m"), ("pay", "b", 0), ("mute", "b", "b"), ("mute", "b", "c"),
            ("mute", "d", "a"), ("mute", "c", "a"), ("mute", "b", None), ("mute", "b"), ("Out", 0), (0, 0), (None, "a"),
            (["out"], 0), ("more", "a"), "out 0", ("out", None), (), ("out", 10 ** 30), ("card", "a", "n"),
            ("more", "b", "m"), (None, "b", "m"), ("Mute", "a", "b"),
        ]
        for value in odd_but([]) + wrong:
            for repairs in [[value], (("out", 0), value)]:
                with raises(self, BadChange, "value", repairs):
                    mended(rules, repairs)
        for value in odd_but([], ()) + [[("out", 0), ("out", 0)], {("out", 0): 1}, {("out", 0)}, iter([("out", 0)])]:
            with raises(self, BadChange, "value", value):
                mended(rules, value)
        for value in ODD + [Rules]:
            with raises(self, BadRules, "part", value):
                mended(value, None)

    def test_all_sets_of_repairs(self):
        for seed in range(60):
            rules = made_rules(seed)
            repairs = all_repairs(rules)[:6]
            for picks in all_sets(len(repairs)):
                found = mended(rules, [repairs[at] for at in picks])
                self.assertEqual((found.marks, found.seats, found.order, found.start),
                                 (rules.marks, rules.seats, rules.order, rules.start))
                self.assertEqual(found.words(), rules.words())
                for deed in found.deeds:
                    old = rules[deed.word]
                    chosen = [repairs[at] for at in picks]
                    mutes = [one[2] for one in chosen if one[:2] == ("mute", deed.word)]
                    self.assertEqual(deed.answers, [word for word in old.answers if word not in mutes])
                    pays = {mark: old.pays.get(mark, 0) + (("pay", deed.word, mark) in chosen) for mark in rules.marks}
                    self.assertEqual(deed.pays, {mark: count for mark, count in pays.items() if count})
                    self.assertEqual(deed.card, old.card or ("card", deed.word) in chosen)
                    self.assertEqual((deed.steps, deed.goals, deed.asks), (old.steps, old.goals, old.asks))


class MendTest(unittest.TestCase):
    def test_a_strike(self):
        rules = striking(False)
        mend = Mend(rules, [("out", 0), ("may", 0), ("card", "hit"), ("mute", "hit", "a")], [("ends",), ("lays", "hit")])
        self.assertEqual(len(mend), 4)
        self.assertEqual(mend.unmet(()), [0])
        self.assertEqual(mend.unmet((1,)), [0])
        self.assertEqual(mend.unmet((3,)), [1])
        self.assertEqual(mend.unmet((0, 3)), [1])
        self.assertEqual(mend.least(), [(0,), (2,)])
        self.assertEqual(list(mend.good()), [(0,), (2,), (0, 1), (0, 2), (1, 2), (0, 1, 2)])
        for picks in all_sets(4):
            ring = mend.ring(picks)
            self.assertEqual(ring is None, 0 not in mend.unmet(picks))
            if ring is not None:
                self.assertIs(is_ring(mend.behind(picks), ring), True)

    def test_each_wish(self):
        deeds = [Deed("a", opens=True, asks={"m": 1}, steps=[("less", "m")]), Deed("b", opens=True, asks={"n": 1}),
                 Deed("c")]
        rules = Rules({"m": 1, "n": 1}, deeds, [Waking("done", "a", "c"), Waking("instead", "b", "b")],
                      start={"m": 1})
        wishes = [("ends",), ("can",), ("with", (0, 0)), ("never", (0, 0)), ("lays", "a"), ("lays", "b")]
        # From the start: b, which never ends, opens from other tables alone.
        self.assertEqual(Mend(rules, [], wishes).unmet(()), [3, 5])
        more = [("lays", "c"), ("with", (1, 0)), ("never", (1, 0)), ("lays", "c"), ("never", (0, 1)), ("with", (0, 1))]
        self.assertEqual(Mend(rules, [], more).unmet(()), [0, 1, 3, 5])
        other = rules.changed(start={"m": 1, "n": 1})
        self.assertEqual(Mend(other, [], wishes).unmet(()), [0, 1, 2])
        self.assertEqual(Mend(other, [("out", 1)], wishes).unmet((0,)), [2])

    def test_can_is_not_to_end(self):
        # A ring goes round for ever, but each place has an end.
        rules = striking(False)
        self.assertEqual(Mend(rules, (), (("ends",), ("can",))).unmet(()), [0])
        # It calls itself in its own place: no end at all.
        never = Rules({}, [Deed("a", opens=True)], [Waking("instead", "a", "a")])
        self.assertEqual(Mend(never, (), (("ends",), ("can",))).unmet(()), [0, 1])
        # No calm end, but an end by a card.
        card = Rules({}, [Deed("a", opens=True), Deed("b", answers=["a"], steps=[("strike",)])],
                     [Waking("instead", "a", "a")])
        self.assertEqual(Mend(card, (), (("ends",), ("can",))).unmet(()), [0])
        self.assertEqual(Mend(Rules({}, [Deed("a")]), (), (("ends",), ("can",), ("with", ()))).unmet(()), [2])

    def test_several_least_sets(self):
        mend = Mend(rounds(), [("pay", "b", "m"), ("card", "b"), ("pay", "c", "m"), ("card", "c"), ("out", 0)],
                    [("ends",)])
        self.assertEqual(mend.least(), [(0, 2), (0, 3), (1, 2), (1, 3)])
        self.assertEqual(list(mend.good())[:4], [(0, 2), (0, 3), (1, 2), (1, 3)])

    def test_good_sets_whose_parts_are_not(self):
        # Good is no longer good with more: ("never", ..) and ("with", ..) pull both ways.
        deeds = [Deed("a", opens=True), Deed("b", steps=[("more", "m")]), Deed("c", steps=[("less", "m")])]
        rules = Rules({"m": 1}, deeds, [Waking("done", "a", "b"), Waking("done", "a", "c")], order="last")
        mend = Mend(rules, [("out", 0), ("out", 1)], [("never", (0,))])
        self.assertEqual(list(mend.good()), [(1,)])
        self.assertEqual(mend.least(), [(1,)])
        still = Mend(rules, [("out", 0), ("out", 1)], [("with", (0,))])
        self.assertEqual(list(still.good()), [(), (0,), (0, 1)])
        self.assertEqual(still.least(), [()])

    def test_empty_menus_and_wishes(self):
        mend = Mend(striking(True), [], [])
        self.assertEqual((len(mend), mend.unmet(()), list(mend.good()), mend.least()), (0, [], [()], [()]))
        self.assertEqual(mend(()), striking(True))
        none = Mend(striking(False), [], [("ends",)])
        self.assertEqual((list(none.good()), none.least()), ([], []))
        self.assertEqual(list(Mend(striking(False), [("out", 0), ("may", 0)], ()).good()), [(), (0,), (1,), (0, 1)])

    def test_eight_and_nine_repairs(self):
        rules = whole()
        repairs = all_repairs(rules)
        self.assertGreater(len(repairs), 8)
        mend = Mend(rules, repairs[:8], [("ends",)])
        self.assertEqual(len(mend), 8)
        self.assertEqual(list(mend.good()), [picks for picks in all_sets(8) if not mend.unmet(picks)])
        self.assertEqual(mend.behind(tuple(range(8))), mended(rules, repairs[:8]))
        with raises(self, BadChange, "value", repairs[:9]):
            Mend(rules, repairs[:9], [])
        # Nine at once are no fault elsewhere.
        mended(rules, repairs[:9])

    def test_what_is_told_goes_together(self):
        told = {True: 0, False: 0}
        for seed in range(0, 120, 2):
            for rules in [made_rules(seed), lively_rules(seed)]:
                repairs = all_repairs(rules)[seed % 3:][:4]
                words, tables = rules.words(), rules.tables()
                wishes = [("ends",), ("can",), ("with", tables[0]), ("never", tables[-1]), ("lays", words[-1])]
                wishes = wishes[seed % 4:] + wishes[:1 + seed % 2]
                mend = Mend(rules, repairs, wishes)
                good = []
                for picks in all_sets(len(repairs)):
                    behind = mended(rules, [repairs[at] for at in picks])
                    self.assertEqual(mend.behind(picks), behind)
                    self.assertEqual(mend(picks), behind)
                    wanted = [at for at, wish in enumerate(wishes) if not self.is_true(behind, wish)]
                    self.assertEqual(mend.unmet(picks), wanted, seed)
                    ring = mend.ring(picks)
                    self.assertEqual(ring is None, paper_of(behind) is not None)
                    if ("ends",) in wishes:
                        self.assertEqual(ring is None, wishes.index(("ends",)) not in wanted)
                    if ring is not None:
                        self.assertIs(is_ring(behind, ring), True)
                    good += [] if wanted else [picks]
                    told[not wanted] += 1
                self.assertEqual(list(mend.good()), good)
                least = [one for one in good if not any(set(other) < set(one) for other in good)]
                self.assertEqual(mend.least(), least)
        self.assertGreater(min(told.values()), 60)

    def is_true(self, rules, wish):
        outlook = Outlook(rules)
        return {
            "ends": lambda: outlook.ring() is None, "can": lambda: outlook.never() == [],
            "with": lambda: wish[1] in outlook.results(), "never": lambda: wish[1] not in outlook.results(),
            "lays": lambda: wish[1] not in unlaid(rules),
        }[wish[0]]()

    def test_wrong_arguments(self):
        rules = whole()
        for value in ODD + [Rules]:
            with raises(self, BadRules, "part", value):
                Mend(value, "menu", "wishes")
        wrong = [[("out", 0), ("out", 0)], [("may", 1)], [["out", 0]], {("out", 0): 1}, [("out", False)], [None]]
        for value in odd_but([], ()) + wrong:
            with raises(self, BadChange, "value", value):
                Mend(rules, value, "wishes")
        wrong = [
            [("end",)], [("ends", None)], [("can", 0)], [("with", (3, 0))], [("with", (0,))], [("with", [0, 0])],
            [("with",)], [("never", (True, 0))], [("never", None)], [("lays", "d")], [("lays", 0)], [("lays",)],
            [["ends"]], ["ends"], [("ends",), None], [(0,)], [(["ends"],)], {("ends",): 1}, [("ends",)] * 7,
            [("with", (0, 0), 0)], [("lays", ["a"])], [("lay", "a")], [("ends", "a")], [(None, "a")],
            [("lays", (0, 0))], [("table", (0, 0))],
        ]
        for value in odd_but([], ()) + wrong:
            with raises(self, BadArgument, "value", value):
                Mend(rules, [], value)
        # Six wishes, also one of them twice.
        self.assertEqual(len(Mend(rules, (), [("ends",)] * 6).unmet(())) % 6, 0)

    def test_wrong_sets(self):
        mend = Mend(whole(), [("out", 0), ("out", 1), ("out", 2)], [("ends",)])
        wrong = [(0, 0), (1, 0), (3,), (-1,), (True,), (0, True), (0, 1.0), [0], ("0",), (0, 2, 1), (None,), ((),),
                 (0, 1, 2, 3), ([],), 0, {0: 1}, {0}]
        for value in odd_but(()) + wrong:
            for call in [mend, mend.behind, mend.unmet, mend.ring]:
                with raises(self, BadChange, "value", value):
                    call(value)

    def test_too_many_places(self):
        mend = Mend(too_many(), [("mute", "x", "a")], [("ends",)])
        for call in [mend.unmet, mend.ring]:
            with raises(self, TooMany, "most", 2000):
                call(())
        with raises(self, TooMany, "most", 2000):
            mend.least()
        told = mend.good()
        with raises(self, TooMany, "most", 2000):
            next(told)
        self.assertEqual(mend.unmet((0,)), [])
        self.assertIsNone(mend.ring((0,)))
        self.assertEqual(len(mend.behind(()).deeds), 4)

    def test_too_many_when_it_comes_to_it(self):
        # The call that must be laid strikes what would be answered in very many ways.
        rules = too_many().changed(deeds=too_many().deeds + [Deed("s", steps=[("strike",)])],
                                   wakings=[Waking("laid", "a", "s")])
        told = Mend(rules, [("may", 0)], [("can",)]).good()
        self.assertEqual(next(told), ())
        with raises(self, TooMany, "most", 2000):
            next(told)

    def test_good_is_a_generator(self):
        self.assertTrue(inspect.isgeneratorfunction(Mend.good))

    def test_caller_may_change_what_was_given_and_told(self):
        menu, wishes = [("out", 0), ("card", "hit")], [("ends",)]
        mend = Mend(striking(False), menu, wishes)
        menu.clear()
        wishes.append(("lays", "a"))
        self.assertEqual((len(mend), mend.unmet(()), mend.least()), (2, [0], [(0,), (1,)]))
        mend.unmet(()).clear()
        mend.least().clear()
        mend.ring(())[0].clear()
        self.assertEqual((mend.unmet(()), mend.least()), ([0], [(0,), (1,)]))
        self.assertTrue(mend.ring(())[0])

    def test_by_name(self):
        mend = Mend(wishes=[("ends",)], menu=[("out", 0)], rules=striking(False))
        self.assertEqual(mend.behind(picks=(0,)), mend(picks=(0,)))
        self.assertEqual(mend.unmet(picks=(0,)), [])
        self.assertIsNone(mend.ring(picks=(0,)))
        self.assertEqual(mended(repairs=[("out", 0)], rules=striking(False)), mend((0,)))
        self.assertEqual(card_sets(rules=striking(False)), [["hit"]])


class CardSetsTest(unittest.TestCase):
    def test_none_is_needed(self):
        self.assertEqual(card_sets(striking(True)), [[]])
        self.assertEqual(card_sets(Rules({}, [Deed("a", card=False)])), [[]])

    def test_one_card(self):
        self.assertEqual(card_sets(striking(False)), [["hit"]])

    def test_two_cards(self):
        self.assertEqual(card_sets(rounds()), [["b", "c"]])

    def swapping(self, words):
        """The deed b makes n of m, the others make m of n: a ring needs b and another one."""
        deeds = [Deed("a", opens=True)]
        deeds += [Deed(word, answers=["a"], card=False, pays={"n": 1}, steps=[("more", "m")]) for word in words]
        deeds += [Deed("b", answers=["a"], card=False, pays={"m": 1}, steps=[("more", "n")])]
        return Rules({"m": 1, "n": 1}, deeds, start={"m": 1})

    def test_several_least_lists(self):
        self.assertEqual(card_sets(self.swapping(["c"])), [["b"], ["c"]])
        self.assertEqual(card_sets(self.swapping(["ab"])), [["ab"], ["b"]])

    def test_by_size_then_ascending(self):
        self.assertEqual(card_sets(self.swapping(["c", "aa"])), [["b"], ["aa", "c"]])
        self.assertEqual(card_sets(self.swapping(["d", "aa", "c"])), [["b"], ["aa", "c", "d"]])

    def test_none_is_enough(self):
        deeds = [Deed("a", opens=True, card=False), Deed("b", card=False)]
        self.assertEqual(card_sets(Rules({}, deeds, [Waking("done", "a", "a")])), [])
        self.assertEqual(card_sets(Rules({}, [Deed("a", opens=True)], [Waking("done", "a", "a")])), [])

    def test_what_is_told_goes_together(self):
        sizes = {}
        for seed in range(200):
            for rules in [made_rules(seed), lively_rules(seed)]:
                found = card_sets(rules)
                self.assertEqual(found == [[]], Outlook(rules).ring() is None)
                words = [word for word in rules.words() if not rules[word].card]
                enough = []
                for picks in all_sets(len(words)):
                    repairs = [("card", words[at]) for at in picks]
                    if Outlook(mended(rules, repairs)).ring() is None:
                        enough.append([words[at] for at in picks])
                least = [one for one in enough if not any(set(other) < set(one) for other in enough)]
                self.assertEqual(found, least, seed)
                self.assertEqual(found, sorted(found, key=lambda one: (len(one), one)))
                kind = len(found[0]) if found else None
                sizes[kind] = sizes.get(kind, 0) + 1
        self.assertTrue({None, 0, 1} <= set(sizes))

    def test_wrong_rules_and_too_many(self):
        for value in ODD + [Rules]:
            with raises(self, BadRules, "part", value):
                card_sets(value)
        with raises(self, TooMany, "most", 2000):
            card_sets(too_many())

    def test_caller_may_change_what_is_told(self):
        rules = striking(False)
        card_sets(rules)[0].append("a")
        card_sets(rules).clear()
        self.assertEqual(card_sets(rules), [["hit"]])


if __name__ == "__main__":
    unittest.main()
