"""States: entries, laying, tops that are done, moves, hands and plays [6] [7] [8]."""

import unittest

from answerpiles.errors import BadEntry, BadHands, BadMove, BadRules, BadTable
from answerpiles.piles import State
from answerpiles.rules import Deed, Rules, Waking

from helps import ODD, odd_but, raises

DONE = ("done", "steps", (), ())


def lay(seat, word, goal=None, calls=()):
    return ("lay", seat, word, goal, calls)


def words(state):
    return [entry[0] for entry in state.pile]


def some_rules():
    """Two marks, a deed that opens, answers with and without a card."""
    deeds = [
        Deed("a", opens=True, goals=["m", "n"], steps=[("more", "goal")]),
        Deed("b", answers=["a", "b"], card=False, pays={"n": 1}),
        Deed("c", answers=["a"]),
    ]
    return Rules({"m": 1, "n": 3}, deeds, start={"n": 2})


class StateTest(unittest.TestCase):
    def test_first_state(self):
        rules = some_rules()
        state = State(rules)
        self.assertIs(state.rules, rules)
        self.assertEqual((state.table, state.pile, state.hands), ((0, 2), [], None))
        self.assertIs(state.is_over, True)
        self.assertEqual(len(state), 0)

    def test_parts_are_told(self):
        pile = [("a", 1, "n", False), ("b", 0, None, True)]
        hands = [{"c": 9, "a": 1}, {"a": 0}]
        state = State(some_rules(), (1, 3), tuple(pile), hands=hands)
        self.assertEqual((state.table, state.pile), ((1, 3), pile))
        self.assertEqual([list(hand.items()) for hand in state.hands], [[("a", 1), ("c", 9)], []])
        self.assertIs(state.is_over, False)
        self.assertEqual(len(state), 2)
        self.assertEqual(state, State(some_rules(), (1, 3), pile, hands=tuple(hands)))

    def test_rules_are_told_by_every_state(self):
        rules = some_rules()
        opening = State(rules)
        behind = opening.after(lay(0, "a", "n"))
        states = [opening, behind, State.with_all(rules, 2), State(rules, (1, 3), behind.pile, hands=[{}, {"c": 1}])]
        states += opening.played([lay(0, "a", "m"), DONE])
        states += [state for _, state in [*opening.lays(), *behind.lays(), *behind.dones()]]
        for state in states:
            self.assertEqual(state.rules, some_rules())
            with self.assertRaises(AttributeError):
                state.rules = Rules({}, [Deed("a")])
            self.assertEqual(state.rules, some_rules())

    def test_wrong_rules(self):
        for value in ODD:
            with raises(self, BadRules, "part", value):
                State(value, 5, 5, hands=5)
            with raises(self, BadRules, "part", value):
                State.with_all(value, 99)

    def test_wrong_table(self):
        for value in odd_but(None, (0, 0)) + [[0, 2], (0, True), (2, 0), (0, 4), (0,)]:
            with raises(self, BadTable, "table", value):
                State(some_rules(), value, 5, hands=5)

    def test_wrong_pile(self):
        low = ("b", 0, None, False)
        wrong = [
            ("c",), ("c", 0, None), ("c", 0, None, True, 0), ["c", 0, None, True],
            ("d", 0, None, True), (["c"], 0, None, True), (None, 0, None, True),
            ("c", 2, None, True), ("c", -1, None, True), ("c", True, None, True),
            ("c", 1.0, None, True), ("c", "0", None, True), ("c", None, None, True),
            ("c", 0, "m", True), ("c", 0, (), True), ("a", 0, None, True), ("a", 0, "k", True),
            ("a", 0, ["m"], True), ("a", 0, "goal", True), ("c", 0, None, 1), ("c", 0, None, 0),
            ("c", 0, None, None), "c", None, 1, {}, ("c", 0, False, True),
        ]
        piles = [[low, entry] for entry in wrong] + [[entry] for entry in wrong]
        piles += odd_but((), []) + [low, {low: 1}, iter([low]), [("b", 0, None, True)],
                                    [("b", 0, None, True), low]]
        for value in piles:
            with raises(self, BadEntry, "entry", value):
                State(some_rules(), None, value, hands=5)

    def test_heights(self):
        entry = ("b", 0, None, False)
        self.assertEqual(len(State(some_rules(), None, [entry] * 400)), 400)
        value = [entry] * 401
        with raises(self, BadEntry, "entry", value):
            State(some_rules(), None, value)

    def test_wrong_hands(self):
        wrong = odd_but(None, [{}, {}]) + [
            [{}], [{}, {}, {}], {0: {}, 1: {}}, [{"a": 10}, {}], [{"a": -1}, {}], [{}, {"a": True}],
            [{"b": 1}, {}], [{"d": 1}, {}], [{"m": 1}, {}], [{"a": None}, {}], [{}, {"a": 1.0}],
            [{}, [("a", 1)]], [{None: 1}, {}], [{("a",): 1}, {}], [{}, None], iter([{}, {}]),
            [{"b": 0}, {}],
        ]
        for value in wrong:
            with raises(self, BadHands, "value", value):
                State(some_rules(), hands=value)
        three = Rules({}, [Deed("a")], seats=3)
        with raises(self, BadHands, "value", [{}, {}]):
            State(three, hands=[{}, {}])
        self.assertEqual(State(three, hands=({}, {}, {"a": 9})).hands, [{}, {}, {"a": 9}])

    def test_with_all(self):
        state = State.with_all(some_rules(), 9)
        self.assertEqual(state, State(some_rules(), hands=[{"a": 9, "c": 9}] * 2))
        self.assertEqual(State.with_all(some_rules(), 0).hands, [{}, {}])
        self.assertEqual(State.with_all(rules=some_rules(), number=1).table, (0, 2))
        for value in odd_but(0, 1, 2, 7) + [10, True, -1]:
            with raises(self, BadHands, "value", [{"a": value, "c": value}] * 2):
                State.with_all(some_rules(), value)
        bare = Rules({}, [Deed("a", card=False)])
        for value in ODD:
            self.assertEqual(State.with_all(bare, value).hands, [{}, {}])

    def test_equal(self):
        rules = some_rules()
        state = State(rules, (0, 2), [("b", 0, None, False)], hands=[{"a": 1}, {}])
        same = State(some_rules(), None, (("b", 0, None, False),), hands=({"a": 1, "c": 0}, {}))
        self.assertTrue(state == same)
        for other in [
            State(rules.changed(order="any"), (0, 2), state.pile, hands=state.hands),
            State(rules, (0, 1), state.pile, hands=state.hands),
            State(rules, None, [("b", 1, None, False)], hands=state.hands),
            State(rules, None, state.pile, hands=[{"a": 2}, {}]),
            State(rules, None, state.pile, hands=[{}, {"a": 1}]),
            State(rules, None, state.pile),
        ]:
            self.assertFalse(state == other)
        for value in ODD + [rules]:
            self.assertIs(state == value, False)

    def test_caller_may_change_what_was_given_and_told(self):
        pile, hands = [("b", 0, None, False)], [{"a": 1}, {}]
        state = State(some_rules(), None, pile, hands=hands)
        moves = state.moves()
        for _ in range(2):
            pile.append(None)
            hands[0]["a"] = 5
            hands.pop()
            state.moves().clear()
            self.assertEqual(state.pile, [("b", 0, None, False)])
            self.assertEqual(state.hands, [{"a": 1}, {}])
            self.assertEqual(state.moves(), moves)
            pile, hands = state.pile, state.hands
        opening = State(some_rules(), hands=[{"a": 1}, {}])
        row = [lay(0, "a", "m"), DONE]
        states = opening.played(row)
        row.clear()
        states.pop()
        self.assertEqual(len(opening.played([lay(0, "a", "m"), DONE])), 2)


class LayingTest(unittest.TestCase):
    def test_opening(self):
        state = State(some_rules())
        self.assertEqual(state.moves(), [lay(0, "a", "m"), lay(0, "a", "n")])
        behind = state.after(lay(0, "a", "n"))
        self.assertEqual((behind.pile, behind.table), ([("a", 0, "n", False)], (0, 2)))

    def test_answers_on_the_top_only(self):
        state = State(some_rules(), None, [("a", 0, "m", False), ("c", 1, None, True)])
        self.assertEqual(state.moves(), [DONE])
        state = State(some_rules(), None, [("c", 1, None, False), ("a", 1, "m", True)])
        self.assertEqual(state.moves(), [DONE, lay(0, "b"), lay(0, "c"), lay(1, "b"), lay(1, "c")])
        behind = state.after(lay(0, "b"))
        self.assertEqual((behind.table, behind.pile[-1]), ((0, 1), ("b", 0, None, True)))

    def test_a_deed_that_opens_answers_only_what_it_answers(self):
        rules = Rules({}, [Deed("a", opens=True), Deed("b", opens=True, answers=["a"])])
        state = State(rules, (), [("a", 0, None, False)])
        self.assertEqual(state.moves(), [DONE, lay(0, "b"), lay(1, "b")])
        self.assertEqual(State(rules).moves(), [lay(0, "a"), lay(0, "b")])

    def test_six_answers(self):
        deeds = [Deed(word, answers=list("abcdef")) for word in "abcdef"]
        state = State(Rules({}, deeds, seats=3), (), [("d", 2, None, False)])
        self.assertEqual(len(state.moves()), 19)
        self.assertEqual(len(list(state.lays())), 18)

    def test_whose(self):
        for whose, seats in [("any", [0, 1, 2]), ("own", [1]), ("other", [0, 2])]:
            deeds = [Deed("a", opens=True, whose=whose, answers=["a"])]
            rules = Rules({}, deeds, seats=3)
            state = State(rules, (), [("a", 1, None, False)])
            self.assertEqual(state.moves()[1:], [lay(seat, "a") for seat in seats])
            self.assertEqual(State(rules).moves(), [lay(0, "a")])

    def test_asks_and_pays_by_themselves(self):
        deed = Deed("a", opens=True, asks={"m": 2, "n": 1}, pays={"m": 2})
        rules = Rules({"m": 3, "n": 1}, [deed])
        for table in rules.tables():
            state = State(rules, table)
            if table in [(2, 1), (3, 1)]:
                self.assertEqual(state.after(lay(0, "a")).table, (table[0] - 2, 1))
            else:
                self.assertEqual(state.moves(), [])
        more = Rules({"m": 3}, [Deed("a", opens=True, asks={"m": 1}, pays={"m": 3})])
        self.assertEqual([table for table in more.tables() if State(more, table).moves()], [(3,)])

    def test_cards(self):
        deeds = [Deed("a", opens=True, answers=["a"]), Deed("b", answers=["a"], card=False)]
        rules = Rules({}, deeds)
        state = State(rules, hands=[{"a": 2}, {}])
        behind = state.after(lay(0, "a"))
        self.assertEqual(behind.hands, [{"a": 1}, {}])
        self.assertEqual(behind.moves(), [DONE, lay(0, "a"), lay(0, "b"), lay(1, "b")])
        behind = behind.after(lay(0, "a"))
        self.assertEqual(behind.hands, [{}, {}])
        self.assertEqual(behind.moves(), [DONE, lay(0, "b"), lay(1, "b")])
        self.assertEqual(behind.after(lay(1, "b")).hands, [{}, {}])
        self.assertEqual(State(rules, hands=[{}, {"a": 9}]).moves(), [])
        nine = State(rules, (), [("a", 0, None, False)], hands=[{}, {"a": 9}])
        self.assertEqual(nine.after(lay(1, "a")).hands, [{}, {"a": 8}])
        full = State(rules).played([lay(0, "a")] + [lay(1, "a")] * 20)[-1]
        self.assertEqual((len(full), full.hands), (21, None))


class CallsTest(unittest.TestCase):
    def rows(self, order, wakings, deeds=(), **parts):
        """The rows of calls with which a can be laid."""
        more = list(deeds) or [Deed("b"), Deed("c")]
        rules = Rules(parts.pop("marks", {}), [Deed("a", opens=True)] + more, wakings,
                      order=order, **parts)
        found = [move[4] for move in State(rules).moves()]
        for move in State(rules).moves():
            self.assertEqual(len(State(rules).after(move)), 1 + len(move[4]))
        return found

    def test_orders(self):
        wakings = [Waking("laid", "a", "b"), Waking("laid", "a", "c")]
        self.assertEqual(self.rows("first", wakings), [((0, None), (1, None))])
        self.assertEqual(self.rows("last", wakings), [((1, None), (0, None))])
        self.assertEqual(self.rows("any", wakings),
                         [((0, None), (1, None)), ((1, None), (0, None))])

    def test_three_and_four_in_any_order(self):
        wakings = [Waking("laid", "a", "b"), Waking("laid", "a", "c"),
                   Waking("laid", "a", "b", by="next"), Waking("laid", "a", "c", by="next")]
        self.assertEqual(len(self.rows("any", wakings[:3])), 6)
        self.assertEqual(len(self.rows("any", wakings)), 24)
        may = [Waking(one.event, one.deed, one.call, by=one.by, may=True) for one in wakings]
        self.assertEqual(len(self.rows("any", may)), 1 + 4 + 12 + 24 + 24)
        self.assertEqual(len(self.rows("first", may)), 16)

    def test_may_and_must(self):
        wakings = [Waking("laid", "a", "b", may=True), Waking("laid", "a", "c")]
        self.assertEqual(self.rows("first", wakings),
                         [((0, None), (1, None)), ((1, None),)])

    def test_goals_of_calls(self):
        deeds = [Deed("b", goals=["m", "n"])]
        rows = self.rows("first", [Waking("laid", "a", "b")], deeds, marks={"m": 1, "n": 1})
        self.assertEqual(rows, [((0, "m"),), ((0, "n"),)])

    def test_calls_that_can_no_longer_be_paid(self):
        deeds = [Deed("b", pays={"m": 2}), Deed("c", asks={"m": 2}, pays={"m": 1})]
        wakings = [Waking("laid", "a", "b"), Waking("laid", "a", "c")]
        parts = {"marks": {"m": 3}, "start": {"m": 3}}
        self.assertEqual(self.rows("first", wakings, deeds, **parts), [((0, None),)])
        self.assertEqual(self.rows("last", wakings, deeds, **parts), [((1, None), (0, None))])
        self.assertEqual(self.rows("any", wakings, deeds, **parts),
                         [((0, None),), ((1, None), (0, None))])
        parts["start"] = {"m": 1}
        self.assertEqual(self.rows("any", wakings, deeds, **parts), [()])
        may = [Waking("laid", "a", "b", may=True), Waking("laid", "a", "c")]
        parts["start"] = {"m": 3}
        self.assertEqual(self.rows("first", may, deeds, **parts), [((0, None),), ((1, None),)])

    def test_the_deed_pays_ahead_of_its_calls(self):
        deeds = [Deed("a", opens=True, pays={"m": 1}), Deed("b", asks={"m": 1})]
        rules = Rules({"m": 1}, deeds, [Waking("laid", "a", "b")], start={"m": 1})
        self.assertEqual(State(rules).moves(), [lay(0, "a")])

    def test_entries_of_laid(self):
        deeds = [Deed("a", opens=True, answers=["a"]), Deed("b", pays={"m": 1}, goals=["m"])]
        wakings = [Waking("laid", "a", "b"), Waking("laid", "a", "b", by="next"),
                   Waking("laid", "b", "b")]
        rules = Rules({"m": 3}, deeds, wakings, seats=3)
        state = State(rules, (2,), [("a", 0, None, False)])
        behind = state.after(lay(2, "a", None, ((0, "m"), (1, "m"))))
        # The next seat behind the last one is seat 0; calls wake no laid.
        self.assertEqual(behind.pile[1:], [("a", 2, None, True), ("b", 2, "m", True),
                                           ("b", 0, "m", True)])
        self.assertEqual(behind.table, (0,))

    def test_entries_of_done_instead_and_struck(self):
        deeds = [Deed("a", opens=True), Deed("b", card=False),
                 Deed("hit", answers=["a"], steps=[("strike",)])]
        for event in ["done", "instead"]:
            rules = Rules({}, deeds, [Waking(event, "a", "b", by="next")])
            way = "steps" if event == "done" else event
            behind = State(rules).played([lay(0, "a"), ("done", way, (), ((0, None),))])[-1]
            self.assertEqual(behind.pile, [("b", 1, None, False)])
        rules = Rules({}, deeds, [Waking("struck", "a", "b"), Waking("done", "hit", "b", by="next")])
        moves = [lay(0, "a"), lay(1, "hit"), ("done", "steps", ((0, None),), ((1, None),))]
        behind = State(rules).played(moves)[-1]
        # The struck entry's own seat calls first, then the seat next to the one that struck.
        self.assertEqual(behind.pile, [("b", 0, None, False), ("b", 0, None, False)])
        behind = State(rules, (), [("a", 1, None, False), ("hit", 0, None, True)])
        self.assertEqual(behind.after(moves[-1]).pile, [("b", 1, None, False)] * 2)

    def test_all_events_come_for_calls(self):
        deeds = [Deed("a", opens=True), Deed("b")]
        rules = Rules({}, deeds, [Waking("done", "a", "b"), Waking("done", "b", "a", may=True)])
        moves = [lay(0, "a"), ("done", "steps", (), ((0, None),)),
                 ("done", "steps", (), ((1, None),)), ("done", "steps", (), ((0, None),)), DONE]
        self.assertIs(State(rules).played(moves)[-1].is_over, True)


class DoneTest(unittest.TestCase):
    def behind(self, deeds, pile, wakings=(), table=(), move=DONE, **parts):
        """The table and the pile behind a move, in any state with this pile."""
        rules = Rules(parts.pop("marks", {}), deeds, wakings, **parts)
        state = State(rules, table, pile).after(move)
        return state.table, state.pile

    def test_steps_in_their_order(self):
        steps = [("more", "m"), ("more", "m"), ("less", "m"), ("more", "n")]
        deed = Deed("a", opens=True, steps=steps)
        for table, behind in [((0, 0), (0, 1)), ((1, 1), (0, 1))]:
            told = self.behind([deed], [("a", 0, None, False)], table=table, marks={"m": 1, "n": 1})
            self.assertEqual(told, (behind, []))

    def test_counts_stay_at_their_ends(self):
        more, less = Deed("a", steps=[("more", "m")]), Deed("b", steps=[("less", "m")])
        for end in [1, 2, 3]:
            for count in range(end + 1):
                for word, behind in [("a", min(end, count + 1)), ("b", max(0, count - 1))]:
                    told = self.behind([more, less], [(word, 0, None, False)], table=(count,),
                                       marks={"m": end})
                    self.assertEqual(told, ((behind,), []))

    def test_steps_of_the_goal(self):
        deed = Deed("a", goals=["m", "n"], steps=[("more", "goal"), ("less", "n")])
        for goal, behind in [("m", (1, 0)), ("n", (0, 1))]:
            told = self.behind([deed], [("a", 0, goal, False)], table=(0, 1),
                               marks={"m": 1, "n": 2})
            self.assertEqual(told, (behind, []))

    def test_strike(self):
        deeds = [Deed("a", steps=[("more", "m")]), Deed("b", steps=[("more", "n"), ("strike",)])]
        pile = [("a", 0, None, False), ("a", 1, None, True), ("b", 1, None, True)]
        told = self.behind(deeds, pile, table=(0, 0), marks={"m": 1, "n": 1})
        self.assertEqual(told, ((0, 1), pile[:1]))

    def test_an_acting_step_that_does_not_reach_does_nothing(self):
        for act in ["strike", "again", "turn"]:
            deeds = [Deed("a", goals=["m", "n"]), Deed("b", steps=[("more", "m"), (act,)])]
            pile = [("a", 0, "m", False), ("b", 1, None, False)]
            told = self.behind(deeds, pile, table=(0, 0), marks={"m": 1, "n": 1})
            self.assertEqual(told, ((1, 0), pile[:1]))

    def test_again(self):
        deeds = [Deed("a", goals=["m", "n"], steps=[("more", "goal")]), Deed("b", steps=[("again",)])]
        wakings = [Waking("laid", "a", "a"), Waking("done", "b", "b")]
        pile = [("a", 0, "n", False), ("b", 1, None, True)]
        told = self.behind(deeds, pile, wakings, (0, 0), ("done", "steps", (), ((1, None),)),
                           marks={"m": 1, "n": 1})
        # The copy wakes no laid, asks and pays nothing, and has the seat of the one that acts.
        self.assertEqual(told, ((0, 0), [("a", 0, "n", False), ("a", 1, "n", True),
                                         ("b", 1, None, False)]))

    def test_a_copy_acts(self):
        deeds = [Deed("a"), Deed("hit", pays={"m": 3}, steps=[("strike",)]),
                 Deed("more", steps=[("again",)])]
        rules = Rules({"m": 1}, deeds)
        pile = [("a", 0, None, False), ("hit", 0, None, True), ("more", 1, None, True)]
        states = State(rules, (0,), pile).played([DONE, DONE])
        self.assertEqual(states[0].pile, pile[:2] + [("hit", 1, None, True)])
        # The copy strikes the deed of which it is a copy.
        self.assertEqual(states[1].pile, pile[:1])

    def test_turn(self):
        deeds = [Deed("a", goals=["m", "n"]), Deed("b", goals=["m"]), Deed("c"),
                 Deed("t", steps=[("turn",)])]
        for entry, behind in [(("a", 1, "m", False), ("a", 1, "n", False)),
                              (("a", 0, "n", False), ("a", 0, "m", False)),
                              (("b", 1, "m", False), ("b", 1, "m", False)),
                              (("c", 1, None, False), ("c", 1, None, False))]:
            told = self.behind(deeds, [entry, ("t", 0, None, True)], table=(0, 0),
                               marks={"m": 1, "n": 1})
            self.assertEqual(told, ((0, 0), [behind]))

    def test_calls_in_the_place_of_the_top(self):
        deeds = [Deed("a", steps=[("more", "m"), ("strike",)]), Deed("b", pays={"n": 1})]
        wakings = [Waking("instead", "a", "b"), Waking("done", "a", "a")]
        pile = [("a", 1, None, False), ("a", 0, None, True)]
        rules = Rules({"m": 1, "n": 1}, deeds, wakings)
        instead = ("done", "instead", (), ((0, None),))
        state = State(rules, (0, 1), pile)
        self.assertEqual(state.moves(), [instead])
        behind = state.after(instead)
        self.assertEqual((behind.table, behind.pile), ((0, 0), pile[:1] + [("b", 0, None, False)]))
        # A call that cannot be paid is not laid in the place.
        state = State(rules, (0, 0), pile[:1])
        self.assertEqual(state.moves(), [("done", "steps", (), ((1, None),))])
        may = State(rules.changed(wakings=[Waking("instead", "a", "b", may=True)]), (0, 1), pile)
        self.assertEqual(may.moves(), [instead, DONE])
        self.assertEqual(may.after(DONE).pile, [])

    def test_calls_see_the_table_of_their_moment(self):
        deeds = [Deed("a", steps=[("less", "m")]), Deed("hit", steps=[("more", "m"), ("strike",)]),
                 Deed("b", pays={"m": 1})]
        wakings = [Waking("struck", "a", "b"), Waking("done", "hit", "b")]
        pile = [("a", 1, None, False), ("hit", 0, None, True)]
        state = State(Rules({"m": 1}, deeds, wakings), (0,), pile)
        self.assertEqual(state.moves(), [("done", "steps", ((0, None),), ())])
        self.assertEqual(state.after(state.moves()[0]).table, (0,))
        state = State(Rules({"m": 2}, deeds, wakings), (1,), pile)
        self.assertEqual(state.moves(), [("done", "steps", ((0, None),), ((1, None),))])

    def test_struck_and_other_calls_each_in_any_order(self):
        deeds = [Deed("a"), Deed("hit", steps=[("strike",)])]
        wakings = [Waking("struck", "a", "a"), Waking("struck", "a", "hit"),
                   Waking("done", "hit", "a"), Waking("done", "hit", "hit", may=True)]
        pile = [("a", 1, None, False), ("hit", 0, None, True)]
        state = State(Rules({}, deeds, wakings, order="any"), (), pile)
        struck = [((0, None), (1, None)), ((1, None), (0, None))]
        calls = [((2, None),), ((2, None), (3, None)), ((3, None), (2, None))]
        self.assertEqual(state.moves(), sorted(
            [("done", "steps", one, other) for one in struck for other in calls], key=str))


class MovesTest(unittest.TestCase):
    def test_lays_and_dones_are_all_moves(self):
        state = State(some_rules(), None, [("a", 0, "m", False)], hands=[{"c": 1}, {}])
        pairs = list(state.lays()) + list(state.dones())
        self.assertEqual(sorted([move for move, behind in pairs], key=str), state.moves())
        self.assertEqual(state.moves(), [DONE, lay(0, "b"), lay(0, "c"), lay(1, "b")])
        for move, behind in pairs:
            self.assertEqual(behind, state.after(move))
        self.assertEqual([move for move, behind in state.dones()], [DONE])
        self.assertEqual(list(State(some_rules()).dones()), [])

    def test_wrong_moves(self):
        state = State(some_rules(), (0, 2), [("a", 0, "m", False)], hands=[{"c": 1}, {}])
        wrong = odd_but(DONE) + [
            lay(1, "c"), lay(0, "a", "m"), lay(0, "b", "m"), lay(2, "b"), lay(True, "b"),
            lay(0, "b", None, ((0, None),)), lay(0, "b", None, []), lay(0.0, "b"), lay(0, ["b"]),
            ["lay", 0, "b", None, ()], ("lay", 0, "b", None), ("lay", 0, "b", None, (), ()),
            ("done", "steps", ()), ("done", "steps", [], ()), ("done", "instead", (), ()),
            ("done", "steps", ((0, None),), ()), ("done", "steps", (), ((0, None),)),
            ("done", ["steps"], (), ()), ("lay", 0, "b", False, ()), list(DONE), ("pass", 0),
            ("done", "steps", (), ((0,),)), ("done", "steps", (), ((0, None), (0, None))),
            ("done", "steps", (), (None,)), ("lay", 0, "b", None, ((True, None),)),
        ]
        for value in wrong:
            with raises(self, BadMove, "move", value):
                state.after(value)
            with raises(self, BadMove, "move", value):
                state.played([value, "none"])
        numbered = Rules({}, [Deed("a", opens=True)], [Waking("laid", "a", "a", by="next")])
        State(numbered).after(lay(0, "a", None, ((0, None),)))
        for value in [lay(0, "a", None, ((False, None),)), lay(0, "a"), lay(False, "a", None, ((0, None),))]:
            with raises(self, BadMove, "move", value):
                State(numbered).after(value)

    def test_played(self):
        state = State(some_rules(), hands=[{"a": 2}, {}])
        moves = [lay(0, "a", "m"), lay(1, "b"), DONE, DONE]
        states = state.played(moves)
        self.assertEqual([words(one) for one in states], [["a"], ["a", "b"], ["a"], []])
        self.assertEqual([one.table for one in states], [(0, 2), (0, 1), (0, 1), (1, 1)])
        self.assertEqual(state.played(tuple(moves)), states)
        self.assertEqual(state.played([]), [])
        others = [value for value in ODD if not isinstance(value, (list, tuple))]
        for value in others + ["lay", {moves[0]: 1}, iter(moves)]:
            with raises(self, BadMove, "move", value):
                state.played(value)
        for value in [[()], ((),), [None], [{}, {}]]:
            with raises(self, BadMove, "move", value[0]):
                state.played(value)
        with raises(self, BadMove, "move", lay(0, "c")):
            state.played([lay(0, "a", "m"), lay(0, "c"), "none"])

    def test_nothing_changes_by_moves(self):
        state = State(some_rules(), hands=[{"a": 2}, {}])
        state.played([lay(0, "a", "m"), DONE])
        self.assertEqual(state, State(some_rules(), hands=[{"a": 2}, {}]))


class HeightTest(unittest.TestCase):
    def setUp(self):
        deeds = [Deed("a", opens=True, answers=["a"]), Deed("b", answers=["a"])]
        self.rules = Rules({}, deeds, [Waking("laid", "b", "b"), Waking("done", "b", "a"),
                                       Waking("done", "b", "a", by="next")])
        self.entry = ("a", 0, None, True)

    def pile(self, many):
        return [("a", 0, None, False)] + [self.entry] * (many - 1)

    def test_399_and_400_entries(self):
        state = State(self.rules, None, self.pile(399))
        self.assertEqual(len(state.after(lay(0, "a"))), 400)
        self.assertEqual(len(state.played([lay(0, "a"), DONE, DONE])[-1]), 398)
        high = tuple(self.pile(399)) + (("b", 1, None, True), ("b", 1, None, True))
        move = lay(1, "b", None, ((0, None),))
        for call in [lambda: state.after(move), lambda: state.played([move, "none"])]:
            with raises(self, BadEntry, "entry", high):
                call()

    def test_401_entries(self):
        state = State(self.rules, None, self.pile(400))
        self.assertEqual(len(state.moves()), 5)
        for move in [lay(0, "a"), lay(1, "a")]:
            high = tuple(self.pile(400)) + (("a", move[1], None, True),)
            with raises(self, BadEntry, "entry", high):
                state.after(move)
            with raises(self, BadEntry, "entry", high):
                state.played([move])
        with raises(self, BadMove, "move", lay(2, "a")):
            state.after(lay(2, "a"))
        with self.assertRaises(BadEntry):
            list(state.lays())
        self.assertEqual([len(behind) for move, behind in state.dones()], [399])
        self.assertEqual(len(state.after(DONE)), 399)

    def test_a_top_that_is_done_can_make_too_many(self):
        pile = self.pile(399) + [("b", 0, None, True)]
        state = State(self.rules, None, pile)
        move = ("done", "steps", (), ((1, None), (2, None)))
        self.assertEqual(state.moves(), [move])
        high = tuple(pile[:399]) + (("a", 0, None, False), ("a", 1, None, False))
        with raises(self, BadEntry, "entry", high):
            state.after(move)
        with raises(self, BadEntry, "entry", high):
            list(state.dones())
        self.assertEqual(list(state.lays()), [])

    def test_lays_come_to_it(self):
        # Laying a goes as far as 400 entries, laying b does not.
        state = State(self.rules, None, self.pile(399))
        generator = state.lays()
        found = []
        with self.assertRaises(BadEntry):
            for move, behind in generator:
                found.append(move)
        self.assertTrue(all(move[2] == "a" for move in found))
