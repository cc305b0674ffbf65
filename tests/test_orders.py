"""Rules read in an order, and where the order of the calls of an event counts [17]."""

import inspect
import itertools
import unittest

import reference
import refonepile

from answerpiles.errors import BadArgument, BadRules, BadTable, NotThere, TooMany
from answerpiles.orders import (event_ends, is_parted_reading, order_counts, parted_reading, readings,
                                where_order_counts)
from answerpiles.piles import State
from answerpiles.rings import Outlook
from answerpiles.rules import Deed, Rules, Waking

from helpbig import few, too_many, too_many_by_last
from helps import ODD, odd_but, raises
from somerules import lively_rules, made_rules, ordered_rules

EVENTS = ["done", "instead", "laid", "struck"]
ORDERS = ["any", "first", "last"]
GONE = ("done", "steps", (), ())
OPEN = ("lay", 0, "a", None, ())


def calls(*numbers):
    return tuple((number, None) for number in numbers)


def done(*numbers):
    return ("done", "steps", (), calls(*numbers))


def two_calls(event="done", order="first", end=1, **more):
    """The second example: two calls of one event that change one mark."""
    deeds = [Deed("a", opens=True), Deed("up", steps=[("more", "m")]), Deed("down", steps=[("less", "m")])]
    wakings = [Waking(event, "a", "up", **more), Waking(event, "a", "down", **more)]
    return Rules({"m": end}, deeds, wakings, order=order)


def kinds_of_rules():
    for seed in range(130):
        yield seed, ordered_rules(seed)
        yield seed, lively_rules(seed)
        if seed % 3 == 0:
            yield seed, made_rules(seed)


def other(order):
    return "last" if order == "first" else "first"


class ReadingsTest(unittest.TestCase):
    def test_example(self):
        for order in ORDERS:
            found = readings(two_calls(order=order))
            self.assertEqual(found, {"any": [(0,), (1,)], "first": [(1,)], "last": [(0,)]})
            self.assertEqual(list(found), ORDERS)

    def test_read_alike(self):
        rules = Rules({"m": 2}, [Deed("a", opens=True, answers=["a"], steps=[("more", "m")])])
        self.assertEqual(readings(rules), {order: [(1,), (2,)] for order in ORDERS})
        # A waking alone has no order, and what nobody opens has no end.
        one = Rules({"m": 1}, [Deed("a", opens=True), Deed("up", steps=[("more", "m")])],
                    [Waking("done", "a", "up")])
        self.assertEqual(readings(one), {order: [(1,)] for order in ORDERS})
        self.assertEqual(readings(Rules({}, [Deed("a")])), {order: [] for order in ORDERS})

    def test_one_call_changes_what_the_other_asks(self):
        deeds = [Deed("a", opens=True), Deed("b", pays={"m": 1}), Deed("c", asks={"m": 1}, steps=[("more", "n")])]
        rules = Rules({"m": 1, "n": 1}, deeds, [Waking("done", "a", "b"), Waking("done", "a", "c")],
                      start={"m": 1})
        self.assertEqual(readings(rules), {"any": [(0, 0), (0, 1)], "first": [(0, 0)], "last": [(0, 1)]})

    def test_as_outlook_tells(self):
        unlike = 0
        for seed, rules in kinds_of_rules():
            found = readings(rules)
            self.assertEqual(list(found), ORDERS)
            for order in ORDERS:
                self.assertEqual(found[order], Outlook(rules.changed(order=order)).results(), seed)
            unlike += found["first"] != found["last"]
        self.assertGreater(unlike, 4)

    def test_wrong_rules(self):
        for value in ODD + [Rules, Deed("a")]:
            for call in [readings, parted_reading, lambda one: list(where_order_counts(one)),
                         lambda one: event_ends(one, None, None, None), lambda one: is_parted_reading(one, None),
                         lambda one: order_counts(one, None, None, None)]:
                with raises(self, BadRules, "part", value):
                    call(value)

    def test_too_many_places(self):
        for order in ORDERS:
            with raises(self, TooMany, "most", 2000):
                readings(too_many_by_last(order))
        self.assertEqual(readings(few())["first"], [(1, 0, 0)])

    def test_caller_may_change_what_is_told(self):
        rules = two_calls()
        found = readings(rules)
        found["any"].clear()
        found.pop("first")
        self.assertEqual(readings(rules), {"any": [(0,), (1,)], "first": [(1,)], "last": [(0,)]})
        event_ends(rules, "done", "a", (0,)).clear()
        self.assertEqual(event_ends(rules, "done", "a", (0,)), [((1,), "stay", None)])

    def test_by_name(self):
        rules = two_calls()
        self.assertEqual(readings(rules=rules), readings(rules))
        wanted = event_ends(rules, "done", "a", (0,))
        self.assertEqual(event_ends(table=(0,), word="a", event="done", rules=rules), wanted)
        self.assertIs(order_counts(table=(0,), word="a", event="done", rules=rules), True)
        self.assertEqual(list(where_order_counts(rules=rules)), list(where_order_counts(rules)))
        told = parted_reading(rules=rules)
        self.assertIs(is_parted_reading(value=told, rules=rules), True)


class EventsTest(unittest.TestCase):
    def test_calls_of_laid_lie_above_the_entry(self):
        deeds = [Deed("a", opens=True, steps=[("more", "n")]), Deed("up", steps=[("more", "m")]),
                 Deed("down", steps=[("less", "m")])]
        wakings = [Waking("laid", "a", "up"), Waking("laid", "a", "down")]
        rules = Rules({"m": 1, "n": 1}, deeds, wakings)
        self.assertEqual(event_ends(rules, "laid", "a", (0, 0)), [((1, 1), "stay", None)])
        self.assertIs(order_counts(rules, "laid", "a", (0, 0)), True)
        self.assertEqual(event_ends(rules.changed(order="any"), "laid", "a", (0, 0)),
                         [((0, 1), "stay", None), ((1, 1), "stay", None)])
        # No call is laid, and the entry is done: with what it does itself.
        self.assertEqual(event_ends(rules, "laid", "up", (0, 0)), [((1, 0), "stay", None)])

    def test_the_entry_of_laid_reaches(self):
        for act in ["strike", "again", "turn"]:
            deeds = [Deed("a", opens=True, goals=["m", "n"], steps=[("more", "goal"), (act,)])]
            rules = Rules({"m": 1, "n": 1}, deeds)
            self.assertEqual(event_ends(rules, "laid", "a", (0, 0)),
                             [((0, 1), act, ("a", 0)), ((1, 0), act, ("a", 0))])
            self.assertEqual(event_ends(rules, "done", "a", (0, 1)), [((0, 1), "stay", None)])

    def test_calls_of_the_next_seat(self):
        deeds = [Deed("a", opens=True), Deed("b", steps=[("strike",)])]
        rules = Rules({}, deeds, [Waking("laid", "a", "b", by="next")], seats=3)
        # It strikes the entry that was laid: what is left is nothing.
        self.assertEqual(event_ends(rules, "laid", "a", ()), [((), "stay", None)])
        rules = Rules({}, [Deed("a", opens=True), Deed("b", answers=["b"], steps=[("strike",)])],
                      [Waking("done", "a", "b", by="next")], seats=3)
        self.assertEqual(event_ends(rules, "done", "a", ()), [((), "stay", None)])

    def test_no_call_is_laid(self):
        deeds = [Deed("a", opens=True, steps=[("more", "m")]), Deed("b", pays={"m": 1})]
        for event in EVENTS:
            wakings = [Waking(event, "a", "b")]
            rules = Rules({"m": 1}, deeds, wakings)
            wanted = {"laid": [((1,), "stay", None)], "instead": []}.get(event, [((0,), "stay", None)])
            self.assertEqual(event_ends(rules, event, "a", (0,)), wanted, event)
            may = Rules({"m": 1}, deeds, [Waking(event, "a", "b", may=True)])
            wanted = {
                # It may be left out, or it pays what is given again behind it.
                "laid": [((1,), "stay", None)], "instead": [((0,), "stay", None)],
            }.get(event, [((0,), "stay", None), ((1,), "stay", None)])
            self.assertEqual(event_ends(may, event, "a", (1,)), wanted, event)
        rules = Rules({"m": 1}, deeds)
        self.assertEqual(event_ends(rules, "instead", "a", (1,)), [])
        self.assertEqual(event_ends(rules, "struck", "a", (1,)), [((1,), "stay", None)])

    def test_instead_leaves_out_that_none_is_laid(self):
        rules = two_calls("instead", may=True, end=2)
        self.assertEqual(event_ends(rules, "instead", "a", (1,)),
                         [((0,), "stay", None), ((1,), "stay", None), ((2,), "stay", None)])
        # Both left out would leave the table as it was.
        rules = Rules({"m": 2}, rules.deeds, rules.wakings[:1])
        self.assertEqual(event_ends(rules, "instead", "a", (1,)), [((2,), "stay", None)])

    def test_the_order_of_each_event(self):
        for event in EVENTS:
            rules = two_calls(event)
            self.assertEqual(event_ends(rules, event, "a", (0,)), [((1,), "stay", None)])
            self.assertEqual(event_ends(rules.changed(order="last"), event, "a", (1,)), [((0,), "stay", None)])
            for order in ORDERS:
                read = rules.changed(order=order)
                self.assertIs(order_counts(read, event, "a", (0,)), True)
                self.assertEqual(list(where_order_counts(read)), [(event, "a", (0,)), (event, "a", (1,))])

    def test_one_of_two_may_be_left_out(self):
        for event in EVENTS:
            deeds = two_calls().deeds
            wakings = [Waking(event, "a", "up", may=True), Waking(event, "a", "down")]
            rules = Rules({"m": 1}, deeds, wakings)
            self.assertEqual(event_ends(rules, event, "a", (1,)), [((0,), "stay", None), ((1,), "stay", None)])
            last = rules.changed(order="last")
            self.assertEqual(event_ends(last, event, "a", (1,)), [((0,), "stay", None)])

    def test_a_deed_that_could_not_be_laid_there(self):
        deeds = [Deed("a", opens=True, pays={"m": 1}), Deed("up", steps=[("more", "m")]),
                 Deed("down", steps=[("less", "m")])]
        for event in EVENTS:
            rules = Rules({"m": 1}, deeds, [Waking(event, "a", "up"), Waking(event, "a", "down")])
            self.assertEqual(event_ends(rules, event, "a", (0,)), [((1,), "stay", None)])
            self.assertIs(order_counts(rules, event, "a", (0,)), True)

    def test_goals(self):
        for goals, wanted in [([], [(0, 0)]), (["n"], [(0, 1)]), (["n", "m"], [(0, 1), (1, 0)])]:
            deeds = [Deed("a", opens=True, goals=goals, steps=[("more", "goal")] if goals else [])]
            rules = Rules({"m": 1, "n": 1}, deeds)
            self.assertEqual(event_ends(rules, "laid", "a", (0, 0)), [(table, "stay", None) for table in wanted])
            calling = Rules({"m": 1, "n": 1}, deeds + [Deed("b", opens=True)], [Waking("done", "b", "a")])
            self.assertEqual(event_ends(calling, "done", "b", (0, 0)), [(table, "stay", None) for table in wanted])

    def test_order_of_struck_calls_counts_beneath_a_strike(self):
        deeds = [Deed("a", opens=True), Deed("hit", answers=["a"], steps=[("strike",)]),
                 Deed("up", steps=[("more", "m")]), Deed("down", steps=[("less", "m")])]
        wakings = [Waking("struck", "a", "up"), Waking("struck", "a", "down"),
                   Waking("done", "hit", "up"), Waking("done", "hit", "down", may=True)]
        rules = Rules({"m": 1}, deeds, wakings[:3])
        self.assertIs(order_counts(rules, "struck", "a", (0,)), True)
        self.assertIs(order_counts(rules, "done", "hit", (0,)), False)
        self.assertEqual(list(where_order_counts(rules)), [("struck", "a", (0,)), ("struck", "a", (1,))])

    def test_what_is_read_goes_on_beneath(self):
        # One waking has no order of its own, but the calls of its call have.
        deeds = two_calls().deeds + [Deed("b", opens=True)]
        rules = Rules({"m": 1}, deeds, two_calls().wakings + [Waking("done", "b", "a")])
        self.assertIs(order_counts(rules, "done", "b", (0,)), True)
        self.assertIs(order_counts(rules, "laid", "a", (0,)), True)
        self.assertIs(order_counts(rules, "done", "up", (0,)), False)
        # Only events and words are gone through that two wakings or more have.
        self.assertEqual(list(where_order_counts(rules)), [("done", "a", (0,)), ("done", "a", (1,))])

    def test_where_order_counts_is_ascending(self):
        deeds = [Deed("b", opens=True), Deed("a", opens=True), Deed("up", steps=[("more", "m")]),
                 Deed("down", steps=[("less", "m")])]
        wakings = [Waking("struck", "a", "up"), Waking("struck", "a", "down"),
                   Waking("done", "b", "up"), Waking("done", "b", "down")]
        rules = Rules({"m": 1}, deeds, wakings)
        self.assertEqual(list(where_order_counts(rules)),
                         [("done", "b", (0,)), ("done", "b", (1,)), ("struck", "a", (0,)), ("struck", "a", (1,))])
        self.assertEqual(list(where_order_counts(Rules({}, [Deed("a")]))), [])
        for pair in itertools.permutations(itertools.product(EVENTS, "ab"), 2):
            wakings = [Waking(event, word, call) for event, word in pair for call in ["up", "down"]]
            found = list(where_order_counts(rules.changed(wakings=wakings)))
            self.assertEqual(found, sorted(found))
            self.assertTrue({(event, word, (0,)) for event, word in pair} <= set(found))

    def test_ends_as_plays_lead_to_them(self):
        whole = 0
        for seed, rules in kinds_of_rules():
            for event, word in itertools.product(EVENTS, rules.words()):
                table = rules.tables()[seed % len(rules.tables())]
                told = event_ends(rules, event, word, table)
                self.assertEqual(told, sorted(set(told), key=str))
                found, complete = self.reference_ends(rules, event, word, table)
                self.assertTrue(found <= set(told), (seed, event, word))
                if complete:
                    whole += 1
                    self.assertEqual(found, set(told), (seed, event, word))
        self.assertGreater(whole, 500)

    def reference_ends(self, rules, event, word, table):
        found, complete = set(), True
        for row, laid, behind in reference.call_rows(rules, event, word, 0, table):
            places = [(behind, laid[0], laid[1:])] if row else []
            if event == "laid":
                places = [(behind, (word, 0, goal, True), laid) for goal in reference.goals_of(rules[word])]
            elif not row and event != "instead":
                found.add((table, "stay", None))
            for place in places:
                ends, all_of_them = reference.ends_within(rules, place, len(place[2]) + 4, False, 150)
                found |= ends
                complete = complete and all_of_them
        return found, complete

    def test_what_is_told_goes_together(self):
        many = 0
        for seed, rules in kinds_of_rules():
            found = list(where_order_counts(rules))
            many += len(found)
            self.assertEqual(found, sorted(set(found)))
            pairs = [(waking.event, waking.deed) for waking in rules.wakings]
            for event, word, table in itertools.product(EVENTS, rules.words(), rules.tables()):
                counts = order_counts(rules, event, word, table)
                ends = [event_ends(rules.changed(order=order), event, word, table) for order in ["first", "last"]]
                self.assertIs(counts, ends[0] != ends[1])
                twice = pairs.count((event, word)) > 1
                self.assertEqual((event, word, table) in found, counts and twice)
        self.assertGreater(many, 50)

    def test_wrong_arguments(self):
        rules = two_calls()
        for call in [event_ends, order_counts]:
            for value in odd_but() + ["call", "Done", "done ", ["done"], b"done"]:
                with raises(self, BadArgument, "value", value):
                    call(rules, value, "x", "y")
            for value in odd_but("a") + ["b", "m", ["a"]]:
                with raises(self, NotThere, "word", value):
                    call(rules, "done", value, "y")
            for value in odd_but() + [(True,), (2,), (-1,), (0.0,), [0], (0, 0), 0]:
                with raises(self, BadTable, "table", value):
                    call(rules, "done", "a", value)

    def test_where_order_counts_is_a_generator(self):
        self.assertTrue(inspect.isgeneratorfunction(where_order_counts))
        told = where_order_counts("none")
        with raises(self, BadRules, "part", "none"):
            next(told)
        told = where_order_counts(too_many_by_last())
        with raises(self, TooMany, "most", 2000):
            next(told)

    def test_too_many_when_it_comes_to_it(self):
        # From tables with less than 3 of m nothing can be laid on the calls.
        deeds = too_many_by_last().deeds
        deeds[3] = Deed("x", answers=["down", "x", "y", "z"], goals=["m", "n"], steps=[("more", "goal")],
                        asks={"k": 1, "m": 3})
        deeds[4:] = [Deed(word, answers=["x", "y", "z"], goals=["m", "n"], steps=[("less", "goal")])
                     for word in "yz"]
        told = where_order_counts(too_many_by_last().changed(deeds=deeds))
        for table in itertools.product([0], [0, 1, 2], [0, 1]):
            self.assertEqual(next(told), ("done", "a", table))
        with raises(self, TooMany, "most", 2000):
            next(told)

    def test_through_the_places_of_the_event_alone(self):
        rules = too_many_by_last("first")
        table = (0, 0, 0)
        self.assertEqual(event_ends(rules, "done", "a", table), [((1, 0, 0), "stay", None)])
        with raises(self, TooMany, "most", 2000):
            event_ends(rules.changed(order="last"), "done", "a", table)
        with raises(self, TooMany, "most", 2000):
            order_counts(rules, "done", "a", table)
        # From the start too many places are reached, but not by these events.
        rules = too_many()
        with self.assertRaises(TooMany):
            Outlook(rules)
        self.assertEqual(event_ends(rules, "done", "a", table), [(table, "stay", None)])
        self.assertIs(order_counts(rules, "struck", "a", table), False)
        self.assertEqual(list(where_order_counts(rules)), [])
        with raises(self, TooMany, "most", 2000):
            order_counts(rules, "laid", "a", (1, 0, 0))

    def test_arguments_are_told_ahead_of_too_many(self):
        rules = too_many_by_last("last")
        for call in [event_ends, order_counts]:
            with raises(self, BadTable, "table", (2, 0, 0)):
                call(rules, "done", "a", (2, 0, 0))


class PartedReadingTest(unittest.TestCase):
    def test_example(self):
        rules = two_calls()
        first = ("first", [OPEN, done(0, 1), GONE, GONE])
        last = ("last", [OPEN, done(1, 0), GONE, GONE])
        for order in ORDERS:
            read = rules.changed(order=order)
            self.assertIn(parted_reading(read), [first, last])
            self.assertIs(is_parted_reading(read, first), True)
            self.assertIs(is_parted_reading(read, last), True)

    def test_alike(self):
        rules = Rules({"m": 2}, [Deed("a", opens=True, answers=["a"], steps=[("more", "m")])])
        self.assertIsNone(parted_reading(rules))
        play = [OPEN, GONE]
        for order in ["first", "last"]:
            self.assertIs(is_parted_reading(rules, (order, play)), False)
        # Other places on the way, but the same tables at the end.
        self.assertIsNone(parted_reading(two_calls().changed(wakings=two_calls().wakings + [
            Waking("done", "down", "up"), Waking("done", "up", "up", may=True)])))
        self.assertIsNone(parted_reading(Rules({}, [Deed("a")])))

    def test_first_and_last_alone(self):
        # Only an order between the two, which any has, leads to another table.
        deeds = [Deed("a", opens=True), Deed("b", pays={"m": 1}), Deed("c", pays={"m": 1}, steps=[("more", "n")]),
                 Deed("d", pays={"m": 1})]
        wakings = [Waking("done", "a", "b"), Waking("done", "a", "c"), Waking("done", "a", "d")]
        rules = Rules({"m": 1, "n": 1}, deeds, wakings, start={"m": 1})
        self.assertEqual(readings(rules), {"any": [(0, 0), (0, 1)], "first": [(0, 0)], "last": [(0, 0)]})
        self.assertIsNone(parted_reading(rules))
        play = [OPEN, done(1), GONE]
        for order in ORDERS:
            self.assertIs(is_parted_reading(rules, (order, play)), False)

    def test_the_table_must_be_none_of_the_other_order(self):
        deeds = two_calls().deeds + [Deed("b", opens=True, steps=[("more", "m")])]
        rules = two_calls().changed(deeds=deeds)
        # In the order last a pile can end with (1,), too: only (0,) parts them.
        found = parted_reading(rules)
        self.assertEqual(found, ("last", [OPEN, done(1, 0), GONE, GONE]))
        self.assertIs(is_parted_reading(rules, ("first", [OPEN, done(0, 1), GONE, GONE])), False)

    def test_with_the_fewest_moves_or_not(self):
        rules = two_calls().changed(deeds=[Deed("a", opens=True, answers=["a"])] + two_calls().deeds[1:])
        self.assertEqual(len(parted_reading(rules)[1]), 4)
        longer = [OPEN, ("lay", 1, "a", None, ()), done(0, 1), GONE, GONE, done(0, 1), GONE, GONE]
        self.assertIs(is_parted_reading(rules, ("first", longer)), True)
        self.assertIs(is_parted_reading(rules, ("last", longer)), False)

    def test_values_that_are_none(self):
        rules = two_calls()
        moves = [OPEN, done(0, 1), GONE, GONE]
        self.assertIs(is_parted_reading(rules, ("first", moves)), True)
        wrong = ODD + [
            moves, ["first", moves], ("first",), ("first", moves, None), ("any", moves), (["first"], moves),
            ("first", tuple(moves)), ("first", moves[:-1]), ("first", moves[1:]), ("first", []), ("first", None),
            ("first", moves + moves), ("first", moves + [OPEN]), ("first", moves + [OPEN, GONE]),
            ("last", moves), ("first", [OPEN, done(1, 0), GONE, GONE]), ("first", [OPEN, done(), GONE]),
            ("first", [("lay", False, "a", None, ())] + moves[1:]), ("first", [list(OPEN)] + moves[1:]),
            ("first", [("lay", 1, "a", None, ())] + moves[1:]), ("first", [None]), ("first", {}), ("First", moves),
            ("first", [OPEN, ("done", "steps", (), ((0, None), (True, None))), GONE, GONE]), (None, moves),
        ]
        for value in wrong:
            self.assertIs(is_parted_reading(rules, value), False, value)

    def test_fewest_moves_of_all_plays(self):
        parted = exact = 0
        for seed, rules in kinds_of_rules():
            told = readings(rules)
            found = parted_reading(rules)
            self.assertEqual(found is None, told["first"] == told["last"], seed)
            near = {order: refonepile.ends_within(rules.changed(order=order), rules.start, 6, 1500)
                    for order in ["first", "last"]}
            if found is not None:
                parted += 1
                order, moves = found
                self.assertIsInstance(moves, list)
                self.assertIs(is_parted_reading(rules, found), True, seed)
                states = State(rules.changed(order=order)).played(moves)
                self.assertEqual([state.is_over for state in states], [False] * (len(moves) - 1) + [True])
                self.assertNotIn(states[-1].table, told[other(order)])
            for order in ["first", "last"]:
                for (_, table), many in (near[order] or {}).items():
                    if table not in told[other(order)]:
                        exact += len(found[1]) == many
                        self.assertLessEqual(len(found[1]), many, seed)
        self.assertGreater(parted, 4)
        self.assertGreater(exact, 4)

    def test_too_many_by_one_order_alone(self):
        for order in ORDERS:
            rules = too_many_by_last(order)
            with raises(self, TooMany, "most", 2000):
                parted_reading(rules)
            # What is no whole play is told to be none ahead of that.
            for moves in [[], [OPEN], [OPEN, done(0, 1), GONE], [OPEN, done(1, 0), GONE, GONE], None]:
                self.assertIs(is_parted_reading(rules, ("first", moves)), False)
            with raises(self, TooMany, "most", 2000):
                is_parted_reading(rules, ("first", [OPEN, done(0, 1), GONE, GONE]))

    def test_more_than_400_entries(self):
        deeds = [Deed("a", opens=True, answers=["a"])] + two_calls().deeds[1:]
        rules = two_calls().changed(deeds=deeds)
        for high, wanted in [(399, True), (400, False)]:
            # On the highest pile a done top leaves two calls: one entry more than there was.
            moves = [OPEN] + [("lay", 1, "a", None, ())] * (high - 1) + [done(0, 1), GONE, GONE] * high
            self.assertIs(is_parted_reading(rules, ("first", moves)), wanted)


if __name__ == "__main__":
    unittest.main()
