"""Rules compared by the tables with which piles can end, opening by opening [20]."""

import unittest

import refonepile

from answerpiles.compared import alike, endings, is_parting, parting, within
from answerpiles.errors import BadArgument, BadRules, TooMany
from answerpiles.piles import State
from answerpiles.rings import Outlook
from answerpiles.rules import Deed, Rules, Waking

from helpbig import LAST_ALONE, few, too_many, too_many_by_last
from helps import ODD, odd_but, raises
from somerules import lively_rules, made_rules, ordered_rules

GONE = ("done", "steps", (), ())


def lay(word, goal=None, seat=0):
    return ("lay", seat, word, goal, ())


def one_deed(step="more", mark="m", end=1, **more):
    return Rules({mark: end}, [Deed("a", opens=True, steps=[(step, mark)] if step else [])], **more)


def pairs_of_rules():
    """Rules with the same marks and seats, most of them not far from each other."""
    for seed in range(100):
        for made in [made_rules, lively_rules, ordered_rules]:
            rules = made(seed)
            numbers = range(len(rules.wakings))
            yield seed, rules, rules.changed(order="last" if rules.order == "first" else "first")
            for number in numbers[:2]:
                yield seed, rules, rules.changed(wakings=rules.wakings[:number] + rules.wakings[number + 1:])
            if seed % 5 == 0:
                again = made(seed + 1000)
                if again.marks == rules.marks and again.seats == rules.seats:
                    yield seed, again, rules


class EndingsTest(unittest.TestCase):
    def test_all_tables_and_goals(self):
        deeds = [Deed("b", opens=True, goals=["n", "m"], steps=[("more", "goal")]),
                 Deed("ab", opens=True, asks={"n": 1}), Deed("c")]
        found = endings(Rules({"m": 1, "n": 1}, deeds, start={"m": 1}))
        wanted = {
            ((0, 0), "b", "m"): [(1, 0)], ((0, 0), "b", "n"): [(0, 1)],
            ((0, 1), "ab", None): [(0, 1)], ((0, 1), "b", "m"): [(1, 1)], ((0, 1), "b", "n"): [(0, 1)],
            ((1, 0), "b", "m"): [(1, 0)], ((1, 0), "b", "n"): [(1, 1)],
            ((1, 1), "ab", None): [(1, 1)], ((1, 1), "b", "m"): [(1, 1)], ((1, 1), "b", "n"): [(1, 1)],
        }
        self.assertEqual(found, wanted)
        self.assertEqual(list(found), list(wanted))

    def test_the_opening_is_told_ahead_of_what_it_pays(self):
        found = endings(Rules({"m": 2}, [Deed("a", opens=True, pays={"m": 1})]))
        self.assertEqual(found, {((1,), "a", None): [(0,)], ((2,), "a", None): [(1,)]})

    def test_an_opening_with_no_end_and_none_at_all(self):
        never = Rules({}, [Deed("a", opens=True)], [Waking("instead", "a", "a")])
        self.assertEqual(endings(never), {((), "a", None): []})
        self.assertEqual(endings(Rules({}, [Deed("a")])), {})

    def test_several_ways_to_lay_the_calls(self):
        deeds = [Deed("a", opens=True), Deed("b", steps=[("more", "m")])]
        rules = Rules({"m": 1}, deeds, [Waking("laid", "a", "b", may=True)])
        self.assertEqual(endings(rules), {((0,), "a", None): [(0,), (1,)], ((1,), "a", None): [(1,)]})

    def test_put_together_they_are_the_results(self):
        for seed in range(120):
            for rules in [made_rules(seed), lively_rules(seed), ordered_rules(seed)]:
                found = endings(rules)
                self.assertEqual(list(found), sorted(found))
                at_start = [table for opening, tables in found.items() for table in tables
                            if opening[0] == rules.start]
                self.assertEqual(sorted(set(at_start)), Outlook(rules).results(), seed)
                for table in rules.tables():
                    wanted = {(table, step[0][2], step[0][3]) for step in State(rules, table).lays()}
                    self.assertEqual({opening for opening in found if opening[0] == table}, wanted)
                for tables in found.values():
                    self.assertEqual(tables, sorted(set(tables)))

    def test_plays_from_all_tables(self):
        whole = 0
        for seed in range(60):
            for rules in [made_rules(seed), lively_rules(seed)]:
                found = endings(rules)
                for table in rules.tables()[:4]:
                    near = refonepile.ends_within(rules, table, 6, 500)
                    for (word, goal), last in near or {}:
                        whole += 1
                        self.assertIn(last, found[(table, word, goal)], seed)
        self.assertGreater(whole, 150)

    def test_wrong_rules(self):
        for value in ODD + [Rules, Deed("a")]:
            with raises(self, BadRules, "part", value):
                endings(value)

    def test_too_many_places(self):
        with raises(self, TooMany, "most", 2000):
            endings(too_many())
        with raises(self, TooMany, "most", 2000):
            endings(too_many_by_last("last"))
        self.assertEqual(len(endings(few())), 16)


class ComparedTest(unittest.TestCase):
    def test_within_one_way_alone(self):
        more = Rules({"m": 1}, [Deed("a", opens=True), Deed("up", answers=["a"], steps=[("more", "m")])])
        less = Rules({"m": 1}, [Deed("a", opens=True)])
        self.assertIs(within(less, more), True)
        self.assertIs(within(more, less), False)
        self.assertIs(alike(less, more), False)
        self.assertIs(alike(more, less), False)
        self.assertIs(alike(more, more), True)
        play = [lay("a"), lay("up"), GONE, GONE]
        for other in [0, 1]:
            self.assertIs(is_parting(more, less, (0, (0,), [lay("a"), lay("up", seat=other), GONE, GONE])), True)
        found = parting(more, less)
        self.assertEqual(found[:2] + (found[2][:1], len(found[2])), (0, (0,), play[:1], 4))
        self.assertEqual(parting(less, more)[:2], (1, (0,)))
        self.assertIs(is_parting(less, more, (1, (0,), play)), True)
        for value in [(0, (0,), play), (0, (0,), [lay("a"), GONE]), (1, (0,), [lay("a"), GONE]), (1, (1,), play)]:
            self.assertIs(is_parting(less, more, value), False)

    def test_an_opening_that_the_other_has_not(self):
        one = Rules({}, [Deed("a", opens=True)])
        other = Rules({}, [Deed("b", opens=True)])
        self.assertIs(within(one, other), False)
        self.assertIs(within(other, one), False)
        self.assertIn(parting(one, other), [(0, (), [lay("a"), GONE]), (1, (), [lay("b"), GONE])])
        self.assertIs(is_parting(one, other, (0, (), [lay("a"), GONE])), True)
        self.assertIs(is_parting(one, other, (1, (), [lay("b"), GONE])), True)
        self.assertIs(is_parting(one, other, (1, (), [lay("a"), GONE])), False)
        # An opening with no end parts nothing.
        never = Rules({}, [Deed("a", opens=True)], [Waking("instead", "a", "a")])
        none = Rules({}, [Deed("a")])
        self.assertIs(alike(never, none), True)
        self.assertIs(alike(none, never), True)
        self.assertIsNone(parting(never, none))
        self.assertIs(within(never, one), True)
        self.assertIs(within(one, never), False)

    def test_goals_are_openings_of_their_own(self):
        one = Rules({"m": 1, "n": 1}, [Deed("a", opens=True, goals=["m", "n"], steps=[("more", "goal")])])
        other = Rules({"m": 1, "n": 1}, [Deed("a", opens=True, goals=["m", "n"], steps=[("more", "m")])])
        found = parting(one, other)
        self.assertIn(found, [(0, (0, 0), [lay("a", "n"), GONE]), (1, (0, 0), [lay("a", "n"), GONE]),
                              (0, (1, 0), [lay("a", "n"), GONE]), (1, (1, 0), [lay("a", "n"), GONE]),
                              (1, (0, 1), [lay("a", "n"), GONE])])
        self.assertIs(is_parting(one, other, found), True)
        self.assertIs(is_parting(one, other, (0, (0, 0), [lay("a", "m"), GONE])), False)

    def test_from_all_tables_whatever_the_start(self):
        one = one_deed()
        self.assertIs(alike(one, one_deed(start={"m": 1})), True)
        self.assertIsNone(parting(one, one_deed(start={"m": 1})))
        # From the start both come to the same table, but not from the other one.
        other = one_deed("less", start={"m": 1})
        still = one_deed(None, start={"m": 1})
        self.assertEqual(Outlook(one_deed(start={"m": 1})).results(), Outlook(still).results())
        self.assertEqual(parting(one_deed(start={"m": 1}), still)[1], (0,))
        self.assertIs(alike(one, other), False)

    def test_fewest_moves_by_either_rules(self):
        deeds = [Deed("a", opens=True), Deed("b", answers=["a"], steps=[("more", "m")])]
        one = Rules({"m": 1, "n": 1}, deeds)
        # The first ones part by three moves more than the second ones.
        other = Rules({"m": 1, "n": 1}, [Deed("a", opens=True, steps=[("more", "n")])])
        self.assertEqual(parting(one, other)[2], [lay("a"), GONE])
        rules = [one, Rules({"m": 1, "n": 1}, [Deed("a", opens=True)])]
        self.assertEqual((parting(*rules)[0], len(parting(*rules)[2])), (0, 4))
        self.assertEqual((parting(*rules[::-1])[0], len(parting(*rules[::-1])[2])), (1, 4))

    def test_equal_numbers_of_moves_by_either_rules(self):
        one, other = one_deed("more", end=2), one_deed("less", end=2)
        found = parting(one, other)
        self.assertIn(found[0], [0, 1])
        self.assertEqual(found[2], [lay("a"), GONE])
        for table in [(0,), (1,), (2,)]:
            self.assertIs(is_parting(one, other, (0, table, [lay("a"), GONE])), True)
            self.assertIs(is_parting(one, other, (1, table, [lay("a"), GONE])), True)

    def test_other_marks_ends_and_seats(self):
        one = one_deed()
        wrong = [one_deed(mark="n"), one_deed(end=2), one_deed(seats=3), Rules({}, [Deed("a", opens=True)]),
                 Rules({"m": 1, "n": 1}, [Deed("a", opens=True)])]
        for value in ODD + [Rules, Deed("a")] + wrong:
            for call in self.calls():
                with raises(self, BadArgument, "value", value):
                    call(one, value)
        for other in [one_deed(start={"m": 1}), one_deed(order="last"), one_deed(order="any")]:
            self.assertIs(alike(one, other), True)

    def test_wrong_rules(self):
        for value in ODD + [Rules, Deed("a")]:
            for call in self.calls():
                with raises(self, BadRules, "part", value):
                    call(value, "other")

    def calls(self):
        return [within, alike, parting, lambda one, other: is_parting(one, other, None)]

    def test_what_is_told_goes_together(self):
        told = {True: 0, False: 0}
        compared = 0
        for seed, one, other in pairs_of_rules():
            mine, theirs = endings(one), endings(other)
            one_way = all(table in theirs.get(opening, []) for opening in mine for table in mine[opening])
            back = all(table in mine.get(opening, []) for opening in theirs for table in theirs[opening])
            self.assertIs(within(one, other), one_way)
            self.assertIs(within(other, one), back)
            self.assertIs(alike(one, other), one_way and back)
            found = parting(one, other)
            self.assertEqual(found is None, one_way and back, seed)
            told[found is None] += 1
            if found is None:
                continue
            number, table, moves = found
            rules, others = ((one, theirs), (other, mine))[number]
            self.assertIs(is_parting(one, other, found), True)
            self.assertIs(is_parting(other, one, (1 - number, table, moves)), True)
            states = State(rules, table).played(moves)
            self.assertEqual([state.is_over for state in states], [False] * (len(moves) - 1) + [True])
            self.assertNotIn(states[-1].table, others.get((table, moves[0][2], moves[0][3]), []))
            compared += self.no_shorter_play(one, other, mine, theirs, moves)
        self.assertGreater(min(told.values()), 50)
        self.assertGreater(compared, 100)

    def no_shorter_play(self, one, other, mine, theirs, moves):
        if len(moves) > 6:
            return False
        best = len(moves)
        for rules, others in [(one, theirs), (other, mine)]:
            for table in rules.tables():
                near = refonepile.ends_within(rules, table, len(moves) - 1, 600)
                for ((word, goal), last), many in (near or {}).items():
                    if last not in others.get((table, word, goal), []):
                        best = min(best, many)
        self.assertEqual(best, len(moves))
        return True

    def test_values_that_are_none(self):
        one, other = one_deed(), one_deed("less")
        play = [lay("a"), GONE]
        self.assertIs(is_parting(one, other, (0, (0,), play)), True)
        wrong = odd_but() + [
            [0, (0,), play], (0, (0,)), (0, (0,), play, None), (False, (0,), play), (True, (1,), play),
            (2, (0,), play), (-1, (0,), play), ("0", (0,), play), (0, [0], play), (0, (False,), play),
            (0, (2,), play), (0, (), play), (0, None, play), (0, (0,), tuple(play)), (0, (0,), play[:1]),
            (0, (0,), []), (0, (0,), play + play), (0, (0,), play + [lay("a")]), (0, (0,), None),
            (0, (0,), [lay("a", seat=1), GONE]), (0, (0,), [lay("b"), GONE]), (0, (0,), [list(lay("a")), GONE]),
            (None, (0,), play), (0.0, (0,), play), (0, (0,), [lay("a", seat=False), GONE]),
        ]
        for value in wrong:
            self.assertIs(is_parting(one, other, value), False, value)

    def test_too_many_by_one_rules_alone(self):
        for big in [too_many(), too_many_by_last("last")]:
            for one, other in [(big, few()), (few(), big)]:
                for call in [within, alike, parting]:
                    with raises(self, TooMany, "most", 2000):
                        call(one, other)
            # What is no whole play is told to be none ahead of that.
            for moves in [[], [lay("a")], [GONE], None]:
                self.assertIs(is_parting(few(), big, (0, (0, 0, 0), moves)), False)
            calls = ((0, None), (1, None))
            whole = [lay("a"), ("done", "steps", (), calls), GONE, GONE]
            with raises(self, TooMany, "most", 2000):
                is_parting(few(), big, (0, (0, 0, 0), whole))
            with raises(self, BadArgument, "value", "other"):
                parting(big, "other")
            with raises(self, BadArgument, "value", "other"):
                is_parting(big, "other", None)

    def test_more_than_400_entries(self):
        one = Rules(LAST_ALONE, [Deed("a", opens=True, answers=["a"], steps=[("more", "k")])])
        other = Rules(LAST_ALONE, [Deed("a", opens=True)])
        for high, wanted in [(400, True), (401, False)]:
            moves = [lay("a")] + [lay("a", seat=1)] * (high - 1) + [GONE] * high
            self.assertIs(is_parting(one, other, (0, (0, 0, 0), moves)), wanted)

    def test_by_name(self):
        one, other = one_deed(), one_deed("less")
        self.assertEqual(endings(rules=one), endings(one))
        self.assertIs(within(other=other, one=one), False)
        self.assertIs(alike(other=other, one=one), False)
        found = parting(other=other, one=one)
        self.assertIs(is_parting(value=found, other=other, one=one), True)

    def test_caller_may_change_what_is_told(self):
        one, other = one_deed(), one_deed("less")
        found = endings(one)
        for tables in found.values():
            tables.clear()
        found.clear()
        self.assertEqual(endings(one), {((0,), "a", None): [(1,)], ((1,), "a", None): [(1,)]})
        told = parting(one, other)
        told[2].clear()
        self.assertEqual(parting(one, other)[2], [lay("a"), GONE])


if __name__ == "__main__":
    unittest.main()
