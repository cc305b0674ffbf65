"""Places that are reached, their ends, and rings [9] [10]."""

import unittest

from answerpiles.errors import BadPlace, BadRules, TooMany
from answerpiles.piles import State
from answerpiles.rings import Outlook, is_ring
from answerpiles.rules import Deed, Rules, Waking

from helps import ODD, odd_but, raises

DONE = ("done", "steps", (), ())


def lay(seat, word, goal=None, calls=()):
    return ("lay", seat, word, goal, calls)


def done(struck=(), calls=(), way="steps"):
    return ("done", way, struck, calls)


def low(word, seat=0, goal=None):
    return (word, seat, goal, False)


def high(word, seat=0, goal=None):
    return (word, seat, goal, True)


def striking(card):
    """A strike whose call brings back what it has struck."""
    deeds = [Deed("a", opens=True), Deed("hit", answers=["a"], card=card, steps=[("strike",)])]
    return Rules({}, deeds, [Waking("done", "hit", "a")])


class OutlookTest(unittest.TestCase):
    def test_example(self):
        self.assertEqual(Outlook(striking(True)).results(), [()])
        self.assertIsNone(Outlook(striking(True)).ring())

    def test_places_of_the_example(self):
        outlook = Outlook(striking(True))
        below = [low("a", 0), low("a", 1)]
        hits = [high("hit", 0), high("hit", 1)]
        wanted = [((), a, ()) for a in below] + [((), hit, ()) for hit in hits]
        wanted += [((), a, (hit,)) for a in below for hit in hits]
        self.assertEqual(outlook.places(), sorted(wanted, key=str))
        self.assertEqual(len(outlook), 8)
        for place in wanted:
            self.assertIs(place in outlook, True)
            act = "strike" if place[1] in hits else "stay"
            doer = place[1][:2] if place[1] in hits else None
            self.assertEqual(outlook.ends(place), [((), act, doer)])
            self.assertEqual(outlook(place), outlook.ends(place))
            self.assertEqual(outlook.calm_ends(place), outlook.ends(place))
        self.assertEqual(outlook.never(), [])
        self.assertEqual(outlook.never(calm=True), [])

    def test_wrong_rules(self):
        for value in ODD:
            with raises(self, BadRules, "part", value):
                Outlook(value)
            with raises(self, BadRules, "part", value):
                Outlook(rules=value, everywhere=True)
        with self.assertRaises(TypeError):
            Outlook(striking(True), True)

    def test_wrong_places(self):
        deeds = [Deed("a", opens=True, goals=["m"])]
        outlook = Outlook(Rules({"m": 1}, deeds, start={"m": 1}))
        place = ((1,), low("a", 0, "m"), ())
        self.assertEqual(outlook.places(), [place])
        wrong = odd_but() + [
            ((0,), low("a", 0, "m"), ()), ((True,), low("a", 0, "m"), ()), ((), low("a", 0, "m"), ()),
            ([1], low("a", 0, "m"), ()), ((1,), low("a", False, "m"), ()), ((1,), low("a"), ()),
            ((1,), ("a", 0, "m", 0), ()), ((1,), list(low("a", 0, "m")), ()),
            ((1,), low("a", 0, ["m"]), ()), ((1,), low("a", 0, "m"), []), list(place), place[:2],
            ((1,), low("a", 0, "m"), (high("a", 0, "m"),)), ((1,), low("a", 1, "m"), ()),
            ((1,), high("a", 0, "m"), ()), ((1,), low("b", 0, "m"), ()), ((1.0,), low("a", 0, "m"), ()),
            place + ((),), ((1,), low("a", 0, "m"), None), ((1,), low("a", 0, "m"), ([],)),
        ]
        for value in wrong:
            self.assertIs(value in outlook, False)
            for call in [outlook.ends, outlook, outlook.calm_ends, outlook.play_to]:
                with raises(self, BadPlace, "place", value):
                    call(value)

    def test_from_the_start_and_everywhere(self):
        rules = Rules({"m": 2}, [Deed("a", opens=True, steps=[("more", "m")])], start={"m": 1})
        self.assertEqual(Outlook(rules).places(), [((1,), low("a"), ())])
        self.assertEqual(Outlook(rules).results(), [(2,)])
        everywhere = Outlook(rules, everywhere=True)
        self.assertEqual(everywhere.places(), [((m,), low("a"), ()) for m in range(3)])
        self.assertEqual(everywhere.results(), [(1,), (2,)])

    def test_nothing_opens(self):
        outlook = Outlook(Rules({}, [Deed("a", answers=["a"])]))
        self.assertEqual((len(outlook), outlook.places(), outlook.results()), (0, [], []))
        self.assertEqual((outlook.never(), outlook.ring()), ([], None))

    def test_calls_of_laid_lie_above(self):
        deeds = [Deed("a", opens=True), Deed("b", card=False), Deed("c", card=False)]
        rules = Rules({}, deeds, [Waking("laid", "a", "b"), Waking("laid", "a", "c", by="next")])
        b, c = high("b"), high("c", 1)
        wanted = [((), low("a"), (b, c)), ((), b, (c,)), ((), c, ()), ((), b, ()), ((), low("a"), ())]
        self.assertEqual(Outlook(rules).places(), sorted(wanted, key=str))
        # The opening and what it called are come to with one move.
        opening = lay(0, "a", None, ((0, None), (1, None)))
        for place, dones in zip(wanted, [0, 0, 0, 1, 2]):
            self.assertEqual(Outlook(rules).play_to(place), [opening] + [DONE] * dones)

    def test_calls_of_done_belong_to_the_entry(self):
        deeds = [Deed("a", opens=True, steps=[("more", "m")]),
                 Deed("b", card=False, steps=[("more", "m")]), Deed("c", card=False)]
        rules = Rules({"m": 3}, deeds, [Waking("done", "a", "b"), Waking("done", "a", "c")])
        outlook = Outlook(rules)
        # Its end is that of its calls, not the table at which it was done.
        self.assertEqual(outlook.ends(((0,), low("a"), ())), [((2,), "stay", None)])
        self.assertEqual(outlook.ends(((1,), low("b"), (low("c"),))), [((2,), "stay", None)])
        self.assertIn(((1,), low("c"), ()), outlook)
        self.assertIn(((1,), low("b"), ()), outlook)

    def test_calls_in_the_place_of_an_entry(self):
        deeds = [Deed("a", opens=True, steps=[("more", "m")]), Deed("b", card=False)]
        wakings = [Waking("instead", "a", "b", may=True)]
        outlook = Outlook(Rules({"m": 1}, deeds, wakings))
        self.assertEqual(outlook.ends(((0,), low("a"), ())),
                         [((0,), "stay", None), ((1,), "stay", None)])
        self.assertIn(((0,), low("b"), ()), outlook)
        never = Outlook(Rules({"m": 1}, deeds, [Waking("instead", "a", "a")]))
        self.assertEqual(never.never(), [((0,), low("a"), ())])

    def test_ends_of_acts(self):
        for act in ["strike", "again", "turn"]:
            deeds = [Deed("a", opens=True, goals=["m", "n"], steps=[("more", "goal")]),
                     Deed("x", answers=["a"], steps=[("more", "m"), (act,)]),
                     Deed("c", pays={"m": 1}, card=False)]
            rules = Rules({"m": 1, "n": 1}, deeds, [Waking("done", "x", "c", may=True)])
            outlook = Outlook(rules)
            # The table of an acting end is the one ahead of the calls that the act wakes.
            self.assertEqual(outlook.ends(((0, 0), high("x", 1), ())), [((1, 0), act, ("x", 1))])
            self.assertIn(((0, 0), low("c", 1), ()), outlook)

    def test_struck_with_and_without_calls(self):
        deeds = [Deed("a", opens=True, steps=[("more", "m")]), Deed("hit", answers=["a"],
                                                                   steps=[("strike",)])]
        wakings = [Waking("struck", "a", "a", may=True), Waking("done", "hit", "hit", may=True)]
        outlook = Outlook(Rules({"m": 1}, deeds, wakings))
        place = ((0,), low("a"), (high("hit", 1),))
        self.assertEqual(outlook.ends(place), [((0,), "stay", None), ((1,), "stay", None)])
        for calls in [(low("a"), low("hit", 1)), (low("hit", 1),), (low("a"),)]:
            self.assertIn(((0,), calls[0], calls[1:]), outlook)

    def test_copies_and_turned_entries(self):
        deeds = [Deed("a", opens=True, goals=["m", "n"], steps=[("more", "goal")]),
                 Deed("x", answers=["a"], steps=[("again",)]),
                 Deed("t", answers=["a"], steps=[("turn",)])]
        outlook = Outlook(Rules({"m": 1, "n": 1}, deeds))
        a, copy = low("a", 0, "m"), high("a", 1, "m")
        self.assertIn(((0, 0), a, (copy,)), outlook)
        self.assertEqual(len(outlook.play_to(((0, 0), a, (copy,)))), 3)
        self.assertIn(((0, 0), copy, ()), outlook)
        self.assertEqual(outlook.results(), [(0, 1), (1, 0), (1, 1)])
        turned = ((1, 0), low("a", 0, "n"), ())
        # Behind the end of a copy of it, it can be turned.
        self.assertIn(turned, outlook)
        self.assertEqual(len(outlook.play_to(turned)), 6)
        # It may be turned once more.
        self.assertEqual(outlook.ends(turned), [((1, 0), "stay", None), ((1, 1), "stay", None)])
        no_other = [Deed("a", opens=True), Deed("t", answers=["a"], card=False, steps=[("turn",)])]
        self.assertEqual(Outlook(Rules({}, no_other)).ring(),
                         ([lay(0, "a")], [lay(0, "t"), DONE]))

    def test_ends_with_and_without_a_card(self):
        deeds = [Deed("a", opens=True), Deed("b", answers=["a"], steps=[("more", "m")]),
                 Deed("c", answers=["a"], card=False, pays={"n": 1}, steps=[("more", "n")])]
        outlook = Outlook(Rules({"m": 1, "n": 1}, deeds))
        place = ((0, 0), low("a"), ())
        self.assertEqual(outlook.ends(place), [((0, 0), "stay", None), ((1, 0), "stay", None)])
        self.assertEqual(outlook.calm_ends(place), [((0, 0), "stay", None)])
        outlook = Outlook(Rules({"m": 1, "n": 1}, deeds, start={"n": 1}))
        place = ((0, 1), low("a"), ())
        self.assertEqual([end[0] for end in outlook.calm_ends(place)], [(0, 1)])

    def test_places_that_never_end(self):
        deeds = [Deed("a", opens=True), Deed("b", card=False), Deed("hit", answers=["b"],
                                                                  steps=[("more", "m"), ("strike",)])]
        wakings = [Waking("done", "a", "b"), Waking("done", "b", "b")]
        outlook = Outlook(Rules({"m": 1}, deeds, wakings))
        calmly = outlook.never(calm=True)
        self.assertIn(((0,), low("a"), ()), calmly)
        self.assertIn(((0,), low("b"), ()), calmly)
        self.assertNotIn(((0,), high("hit"), ()), calmly)
        self.assertEqual(outlook.never(), [])
        self.assertEqual(outlook.results(), [(1,)])
        bare = Outlook(Rules({"m": 1}, deeds[:2], wakings))
        self.assertEqual(bare.never(), sorted([((0,), low("a"), ()), ((0,), low("b"), ())], key=str))
        self.assertEqual(bare.never(calm=True), bare.never())
        many = Outlook(Rules({}, [Deed("b", opens=True), Deed("a", opens=True)],
                             [Waking("done", "a", "a"), Waking("done", "b", "b")]))
        self.assertEqual(many.never(), [((), low("a"), ()), ((), low("b"), ())])
        self.assertEqual(bare.results(), [])

    def test_too_many_places(self):
        # Each answer wakes a row of four calls; with all their goals there are very many rows.
        deeds = [Deed("a", opens=True, answers=["a", "b"], goals=["m", "n"], steps=[("more", "goal")]),
                 Deed("b", goals=["k", "m"], steps=[("less", "goal")]),
                 Deed("c", goals=["k", "n"], steps=[("more", "goal")])]
        wakings = [Waking("laid", "a", "b"), Waking("laid", "a", "c"),
                   Waking("laid", "a", "b", by="next"), Waking("laid", "a", "c", by="next")]
        rules = Rules({"k": 1, "m": 1, "n": 3}, deeds, wakings, seats=3, order="any")
        for everywhere in [False, True]:
            with raises(self, TooMany, "most", 2000):
                Outlook(rules, everywhere=everywhere)
        less = Outlook(rules.changed(wakings=wakings[:1]))
        self.assertLessEqual(len(less), 2000)

    def test_2000_and_2001_places(self):
        def part(deeds, wakings=()):
            wakings = [Waking(event, deed, call, by=by, may=may)
                       for event, deed, call, by, may in wakings]
            return Rules({"k": 1, "m": 1}, deeds, wakings, seats=3, order="any")

        goals = ["k", "m"]
        # Rules without a deed in common, and with marks that never change, add their places up.
        one = part([Deed("a", opens=True, answers=["a", "b"], whose="other", goals=goals),
                    Deed("b", opens=True, whose="own", goals=goals)])
        other = part(
            [Deed("d", opens=True, answers=["f"], whose="own"),
             Deed("e", answers=["d", "e"], whose="other", goals=goals),
             Deed("f", answers=["d", "f"], goals=goals)],
            [("laid", "e", "f", "own", False), ("laid", "e", "f", "next", True),
             ("laid", "f", "d", "next", False), ("laid", "e", "d", "own", True)])
        self.assertEqual((len(Outlook(one)), len(Outlook(other))), (50, 1950))
        self.assertEqual(len(Outlook(one | other)), 2000)
        one = part(
            [Deed("a", opens=True, answers=["a", "b", "c"], whose="own", goals=goals),
             Deed("b", opens=True, answers=["a", "c"], whose="own", goals=goals),
             Deed("c", answers=["a", "c"], whose="other", goals=["k"]),
             Deed("d", answers=["a", "b", "c", "d"], goals=goals)],
            [("laid", "d", "d", "next", False), ("laid", "d", "b", "next", True)])
        other = part(
            [Deed("e", opens=True, answers=["e", "f"], goals=goals),
             Deed("f", answers=["e"], whose="own", goals=goals)],
            [("laid", "e", "e", "next", True), ("laid", "f", "f", "next", False)])
        self.assertEqual((len(Outlook(one)), len(Outlook(other))), (1691, 310))
        with raises(self, TooMany, "most", 2000):
            Outlook(one | other)

    def test_caller_may_change_what_was_told(self):
        outlook = Outlook(striking(False))
        place = ((), low("a"), ())
        for _ in range(2):
            told = [outlook.places(), outlook.ends(place), outlook(place), outlook.calm_ends(place),
                    outlook.results(), outlook.never(), outlook.play_to(place)]
            before, around = outlook.ring()
            for row in told + [before, around]:
                row.append("none")
        self.assertEqual((len(outlook.places()), len(outlook)), (8, 8))
        self.assertEqual((outlook.ends(place), outlook.results()), ([((), "stay", None)], [()]))
        self.assertEqual((outlook(place), outlook.never()), (outlook.calm_ends(place), []))
        self.assertEqual(outlook.play_to(place), [lay(0, "a")])
        self.assertEqual(len(outlook.ring()[0]), 1)

    def test_plays_are_played(self):
        rules = striking(False)
        outlook = Outlook(rules)
        for place in outlook.places():
            table, entry, above = place
            state = State(rules).played(outlook.play_to(place))[-1]
            self.assertEqual(state.table, table)
            self.assertEqual(tuple(state.pile[-1 - len(above):]), (entry,) + above)


class RingTest(unittest.TestCase):
    def ring(self, rules):
        ring = Outlook(rules).ring()
        if ring is not None:
            self.assertIs(is_ring(rules, ring), True)
        return ring

    def test_a_strike_whose_call_brings_back_what_was_struck(self):
        self.assertIsNone(self.ring(striking(True)))
        before, around = self.ring(striking(False))
        self.assertEqual((before, around), ([lay(0, "a")], [lay(0, "hit"), done((), ((0, None),))]))

    def test_a_standing_answer_to_itself(self):
        rules = Rules({}, [Deed("a", opens=True, answers=["a"], card=False)])
        before, around = self.ring(rules)
        # The second a reaches, the first one does not: it comes again, or three lie on it.
        self.assertEqual(len(before) + len(around), 3)
        self.assertIs(is_ring(rules, ([lay(0, "a")] * 2, [lay(0, "a")])), True)
        self.assertIs(is_ring(rules, ([lay(0, "a")], [lay(0, "a")])), False)
        self.assertIsNone(self.ring(Rules({}, [Deed("a", opens=True, answers=["a"])])))

    def test_deeds_that_call_themselves(self):
        for event in ["done", "instead"]:
            rules = Rules({}, [Deed("a", opens=True)], [Waking(event, "a", "a")])
            way = "steps" if event == "done" else event
            self.assertEqual(self.ring(rules), ([lay(0, "a")], [done((), ((0, None),), way)]))
        rules = Rules({}, [Deed("a", opens=True)], [Waking("laid", "a", "a")])
        self.assertIsNone(self.ring(rules))
        by_next = Rules({}, [Deed("a", opens=True)], [Waking("done", "a", "a", by="next")], seats=3)
        self.assertEqual(self.ring(by_next), ([lay(0, "a")], [done((), ((0, None),))] * 3))

    def test_a_standing_answer_that_is_done(self):
        rules = Rules({}, [Deed("a", opens=True), Deed("b", answers=["a"], card=False)])
        before, around = self.ring(rules)
        self.assertEqual((before, around), ([lay(0, "a")], [lay(0, "b"), DONE]))
        pays = Rules({"m": 1}, [Deed("a", opens=True),
                                Deed("b", answers=["a"], card=False, pays={"m": 1})],
                     start={"m": 1})
        self.assertIsNone(self.ring(pays))
        again = Rules({"m": 1}, [Deed("a", opens=True), Deed("b", answers=["a"], card=False,
                                                            pays={"m": 1}, steps=[("more", "m")])],
                      start={"m": 1})
        self.assertEqual(len(self.ring(again)[1]), 2)

    def test_a_shortest_ring(self):
        # The mark is full behind two tops that were done; then each second entry comes again.
        deeds = [Deed("x", opens=True, steps=[("more", "m")])]
        rules = Rules({"m": 2}, deeds, [Waking("done", "x", "x", by="next")])
        before, around = self.ring(rules)
        self.assertEqual((len(before), len(around)), (3, 2))

    def test_the_shortest_of_two_rings(self):
        # y goes round in one move behind three, x in three behind one.
        deeds = [Deed("x", opens=True), Deed("y"), Deed("z", answers=["x"], steps=[("strike",)])]
        wakings = [Waking("done", "x", "x", by="next"), Waking("done", "z", "y"),
                   Waking("done", "y", "y")]
        rules = Rules({}, deeds, wakings, seats=3)
        self.assertEqual([len(part) for part in self.ring(rules)], [1, 3])
        # Without the ring of x the other one is the shortest.
        other = self.ring(rules.changed(wakings=wakings[1:]))
        self.assertEqual([len(part) for part in other], [3, 1])

    def test_longer_rings_that_are_found_later(self):
        deeds = [Deed("x", opens=True), Deed("y", opens=True), Deed("u")]
        three = [Waking("done", "x", "x", by="next")]
        six = [Waking("done", "y", "u", by="next"), Waking("done", "u", "y")]
        two = [Waking("done", "y", "u"), Waking("done", "u", "y")]
        for wakings, around in [(three + six, 3), (six + three, 3), (three + two, 2), (two, 2),
                                (six, 6)]:
            for given in [deeds, deeds[::-1]]:
                ring = self.ring(Rules({}, given, wakings, seats=3))
                self.assertEqual([len(part) for part in ring], [1, around])

    def test_a_ring_through_ends_of_what_lies_above(self):
        deeds = [Deed("a", opens=True), Deed("b", answers=["a"], card=False), Deed("c", card=False)]
        rules = Rules({}, deeds, [Waking("laid", "b", "c"), Waking("done", "b", "c")])
        before, around = self.ring(rules)
        self.assertEqual(before, [lay(0, "a")])
        self.assertEqual(around, [lay(0, "b", None, ((0, None),)), DONE,
                                  done((), ((1, None),)), DONE])

    def test_a_copy_that_copies_without_end(self):
        # A copy of what copies copies the one below it, again and again.
        rules = Rules({}, [Deed("a", opens=True, answers=["a"], steps=[("again",)])])
        self.assertEqual(self.ring(rules), ([lay(0, "a")] * 2, [DONE]))
        deeds = [Deed("a", opens=True), Deed("x", answers=["a"], steps=[("again",)])]
        self.assertIsNone(self.ring(Rules({}, deeds)))
        self.assertIsNone(self.ring(Rules({}, deeds, [Waking("done", "x", "a")])))
        self.assertIsNotNone(self.ring(Rules({}, deeds, [Waking("laid", "x", "x")])))


class IsRingTest(unittest.TestCase):
    def setUp(self):
        self.rules = Rules({}, [Deed("a", opens=True), Deed("b", answers=["a", "b"], card=False),
                                Deed("c", answers=["a"])])
        self.before = [lay(0, "a")]
        self.around = [lay(0, "b"), DONE]

    def check(self, wanted, before, around, rules=None):
        self.assertIs(is_ring(rules or self.rules, (before, around)), wanted)

    def test_right_ones(self):
        self.check(True, self.before, self.around)
        self.check(True, [lay(0, "a"), lay(1, "c")] + [DONE], self.around * 3)
        self.check(True, [lay(0, "a"), lay(0, "b")], [lay(0, "b")])
        self.check(True, [lay(0, "a"), lay(1, "b")], [lay(0, "b"), lay(1, "b")])
        # Two entries come again, of which one was taken off on the way.
        self.check(True, [lay(0, "a"), lay(0, "b")], [DONE, lay(0, "b")])

    def test_wrong_ones(self):
        self.check(False, self.before, [])
        self.check(False, [], self.before)
        self.check(False, [], [])
        self.check(False, self.before, [lay(0, "b")])
        self.check(False, self.before, [DONE])
        self.check(False, self.before, [DONE, lay(0, "a")])
        self.check(False, [lay(0, "a"), DONE], self.before)
        self.check(False, [lay(0, "a"), DONE, lay(0, "a")], self.around)
        self.check(False, self.before, [lay(0, "c"), DONE])
        self.check(False, [lay(0, "a"), lay(0, "c")], [DONE, lay(0, "c")])
        self.check(False, self.before, [lay(0, "b"), DONE, "none"])
        self.check(False, ["none"] + self.before, self.around)
        self.check(False, self.before, [lay(2, "b"), DONE])
        self.check(False, self.before, [lay(False, "b"), DONE])

    def test_no_lower(self):
        # The same entry is on top again, but lower than it lay.
        self.check(False, [lay(0, "a"), lay(0, "b"), lay(0, "b")], [DONE])
        self.check(False, [lay(0, "a"), lay(0, "b"), lay(0, "b")], [DONE, DONE, lay(0, "b")])
        # Two entries like those two that were on top are, but one entry lower.
        self.check(False, [lay(0, "a")] + [lay(0, "b")] * 3, [DONE])
        self.check(False, [lay(0, "a")] + [lay(0, "b")] * 4, [DONE, DONE, lay(0, "b")])

    def test_the_same_table(self):
        rules = Rules({"m": 2}, [Deed("a", opens=True), Deed("b", answers=["a"], card=False,
                                                            steps=[("more", "m")])])
        self.check(False, self.before, self.around, rules)
        self.check(True, self.before + self.around * 2, self.around, rules)

    def test_no_entry_below_is_touched(self):
        for act, rest in [("turn", 0), ("again", 1)]:
            deeds = [Deed("a", opens=True), Deed("x", answers=["a"], card=False, steps=[(act,)])]
            rules = Rules({}, deeds)
            # The top is the entry that was acted upon: it may come again.
            self.check(True, self.before, [lay(0, "x"), DONE] + [DONE] * rest, rules)
            # The top acted on the one below it, and x, as it was, comes again.
            ahead = self.before + [lay(0, "x")]
            around = [DONE] + [DONE] * rest + [lay(0, "x")]
            self.check(True, ahead, around, rules)
        deeds = [Deed("a", opens=True, answers=["a"], card=False),
                 Deed("x", answers=["a"], card=False, steps=[("turn",)])]
        rules = Rules({}, deeds, [Waking("done", "x", "x", may=True)])
        ahead = self.before + [lay(0, "a"), lay(0, "x")]
        call = done((), ((0, None),))
        self.check(False, ahead, [call], rules)
        # x does not reach: it acts on nothing, and is called in its own place.
        self.check(True, ahead + [call], [call], rules)
        # x touches the entry below, in vain, and lies there as it was: with that entry it is a ring.
        self.check(True, ahead, [DONE, lay(0, "x")], rules)

    def test_an_entry_below_is_struck(self):
        rules = striking(False)
        self.check(True, [lay(0, "a")], [lay(0, "hit"), done((), ((0, None),))], rules)
        self.check(False, [lay(0, "a")], [lay(1, "hit"), done((), ((0, None),))], rules)
        self.check(True, [lay(0, "a"), lay(0, "hit")], [done((), ((0, None),)), lay(0, "hit")], rules)
        deeds = [Deed("a", opens=True, answers=["a"], card=False),
                 Deed("hit", answers=["a"], card=False, steps=[("strike",)])]
        rules = Rules({}, deeds)
        ahead = [lay(0, "a"), lay(0, "a"), lay(0, "a")]
        # Two entries were above; one of them was struck and laid again.
        self.check(True, ahead, [lay(0, "hit"), DONE, lay(0, "a")], rules)
        self.check(False, ahead, [lay(0, "hit"), DONE], rules)
        self.check(False, ahead, [lay(0, "hit"), DONE, lay(1, "a")], rules)

    def test_any_value(self):
        for value in ODD + [(self.before, self.around, []), [self.before, self.around],
                            (tuple(self.before), self.around), (self.before, tuple(self.around)),
                            (self.before,), (self.before, None), (None, self.around)]:
            self.assertIs(is_ring(self.rules, value), False)
        for value in ODD:
            self.assertIs(is_ring(value, (self.before, self.around)), False)
        self.assertIs(is_ring(value=(self.before, self.around), rules=self.rules), True)

    def test_rings_of_any_length(self):
        self.check(True, [lay(0, "a")] + [lay(0, "b")] * 500, [lay(0, "b")])
