"""All plays with given hands [13]."""

import unittest

from answerpiles.errors import BadHands, BadNumber, BadRules, BadTable, TooMany
from answerpiles.given import Given
from answerpiles.piles import State
from answerpiles.plays import play_text
from answerpiles.rings import Outlook
from answerpiles.rules import Deed, Rules, Waking

from helps import ODD, odd_but, raises
from somerules import made_rules, some_hands
from test_rings import done, lay, striking

DONE = ("done", "steps", (), ())


def two():
    """An opening that gives, and a card that strikes it."""
    deeds = [Deed("a", opens=True, steps=[("more", "m")]),
             Deed("hit", answers=["a", "hit"], steps=[("strike",)])]
    return Rules({"m": 2}, deeds)


def plays_from(state, most):
    """All plays that end with at most so many moves, gone through by State, in order."""
    found = []
    todo = [(state, [])]
    while todo:
        state, moves = todo.pop()
        if moves and state.is_over:
            found.append((moves, state))
        elif len(moves) < most:
            for move in state.moves()[::-1]:
                todo.append((state.after(move), moves + [move]))
    return found


class GivenTest(unittest.TestCase):
    def test_small(self):
        given = Given(two(), [{"a": 1, "hit": 1}, {}])
        # The first state, a, a below hit, and the empty piles behind these.
        self.assertEqual(len(given), 5)
        self.assertIs(given.is_endless, False)
        self.assertEqual(given.results(), [(0,), (1,)])
        self.assertEqual(given.many(), 2)
        self.assertEqual(given.left((0,)), [[{}, {}]])
        self.assertEqual(given.left((1,)), [[{"hit": 1}, {}]])
        self.assertEqual(given.left((2,)), [])
        self.assertEqual(given.shortest((1,)), [lay(0, "a"), DONE])
        self.assertEqual(given.shortest((0,)), [lay(0, "a"), lay(0, "hit"), DONE])
        self.assertIsNone(given.shortest((2,)))
        self.assertEqual(list(given.plays(60)),
                         [[lay(0, "a"), DONE], [lay(0, "a"), lay(0, "hit"), DONE]])
        self.assertEqual(list(given.plays(2)), [[lay(0, "a"), DONE]])
        self.assertEqual([list(given.plays(most)) for most in (0, 1)], [[], []])

    def test_rules(self):
        for given in [Given(two(), [{"a": 1}, {}]), Given(two(), [{}, {}], table=(2,))]:
            self.assertEqual(given.rules, two())
            with self.assertRaises(AttributeError):
                given.rules = striking(True)
            self.assertEqual(given.rules, two())

    def test_another_table(self):
        given = Given(two(), ({"a": 1}, {"hit": 0}), table=(2,))
        self.assertEqual(given.results(), [(2,)])
        self.assertEqual(Given(two(), [{"a": 1}, {}], table=None).results(), [(1,)])
        start = two().changed(start={"m": 1})
        self.assertEqual(Given(start, [{"a": 1}, {}]).results(), [(2,)])

    def test_no_opening(self):
        given = Given(two(), [{"hit": 9}, {"a": 9}])
        self.assertEqual((len(given), given.many(), given.results()), (1, 0, []))
        self.assertEqual((list(given.plays(60)), given.left((0,))), ([], []))
        self.assertIsNone(given.shortest((0,)))
        self.assertIs(given.is_endless, False)

    def test_the_first_state_is_another_one_than_an_empty_pile_behind_a_play(self):
        given = Given(Rules({}, [Deed("a", opens=True, card=False)]), [{}, {}])
        self.assertEqual((len(given), given.many(), given.is_endless), (3, 1, False))
        self.assertEqual(list(given.plays(60)), [[lay(0, "a"), DONE]])
        self.assertEqual(given.left(()), [[{}, {}]])

    def test_endless(self):
        # It ends by each of any number of plays.
        answered = Rules({}, [Deed("a", opens=True), Deed("b", answers=["a"], card=False)])
        given = Given(answered, [{"a": 1}, {}])
        self.assertEqual((len(given), given.is_endless, given.many()), (5, True, None))
        self.assertEqual([len(play) for play in given.plays(4)], [2, 4, 4])
        self.assertEqual(sum(1 for play in given.plays(10)), 1 + 2 + 4 + 8 + 16)
        # It goes on for ever, or ends at once.
        call = Rules({}, [Deed("a", opens=True), Deed("b", opens=True)], [Waking("done", "b", "b")])
        given = Given(call, [{"a": 1, "b": 1}, {}])
        self.assertEqual((given.is_endless, given.many(), given.results()), (True, 1, [()]))
        self.assertEqual(list(given.plays(60)), [[lay(0, "a"), DONE]])
        given = Given(call, [{"b": 1}, {}])
        self.assertEqual((given.is_endless, given.many(), given.results()), (True, 0, []))
        given = Given(striking(False), [{"a": 1}, {}])
        self.assertEqual((given.is_endless, given.many()), (True, None))
        given = Given(striking(True), [{"a": 1, "hit": 2}, {"hit": 1}])
        self.assertIs(given.is_endless, False)

    def test_sixty_moves(self):
        deeds = [Deed("a", opens=True), Deed("b", card=False)]
        rules = Rules({}, deeds, [Waking("done", "a", "b"), Waking("done", "b", "b", may=True)])
        given = Given(rules, [{"a": 1}, {}])
        self.assertEqual([len(play) for play in given.plays(60)], list(range(60, 2, -1)))
        self.assertEqual(len(list(given.plays(59))), 57)

    def test_in_order(self):
        rules = Rules({"m": 1}, [Deed("a", opens=True, goals=["m"]), Deed("b", opens=True),
                                 Deed("c", answers=["a", "b"])], order="any", seats=3)
        given = Given(rules, [{"a": 1, "b": 1}, {"c": 1}, {"c": 1}])
        plays = list(given.plays(60))
        self.assertEqual(plays, sorted(plays, key=lambda play: [str(move) for move in play]))
        self.assertEqual(len(plays), given.many())
        self.assertEqual(len(set(map(play_text, plays))), len(plays))
        self.assertEqual(given.shortest((0,)), [lay(0, "a", "m"), DONE])

    def test_lefts_are_in_the_order_of_their_texts(self):
        given = Given(two(), [{"a": 1, "hit": 2}, {"hit": 2}])
        for table in [(0,), (1,)]:
            self.assertEqual(given.left(table), sorted(given.left(table), key=str))
            self.assertGreater(len(given.left(table)), 2)

    def test_wrong_arguments(self):
        for value in ODD:
            with raises(self, BadRules, "part", value):
                Given(value, 5, table=5)
        for value in odd_but(None, (0,)) + [[0], (True,), (3,), (0, 0), ()]:
            with raises(self, BadTable, "table", value):
                Given(two(), 5, table=value)
            if value is not None:
                given = Given(two(), [{"a": 1}, {}])
                for call in [given.left, given.shortest]:
                    with raises(self, BadTable, "table", value):
                        call(value)
        given = Given(two(), [{"a": 1}, {}])
        for call in [given.left, given.shortest]:
            with raises(self, BadTable, "table", None):
                call(None)
        for value in odd_but([{}, {}]) + [None, [{"a": 10}, {}], [{"a": -1}, {}], [{"b": 1}, {}],
                                          [{"a": True}, {}], [{}, {"m": 1}], [{}, [("a", 1)]],
                                          {0: {}, 1: {}}, [{}], [{"a": 1.0}, {}], "ab"]:
            with raises(self, BadHands, "value", value):
                Given(two(), value)
        with self.assertRaises(TypeError):
            Given(two(), [{}, {}], (0,))

    def test_wrong_numbers(self):
        given = Given(two(), [{"a": 1}, {}])
        for value in odd_but(0, 1, 2, 7) + [61, -1, True, False, 2.0, "2"]:
            # The error comes when the first value is asked for.
            plays = given.plays(value)
            with raises(self, BadNumber, "number", value):
                next(plays)
        self.assertEqual(len(list(given.plays(most=60))), 1)

    def test_too_many_states(self):
        # One state for each height, the first state and the end: heights of 1 to 400 are allowed.
        deeds = [Deed("a", opens=True, answers=["a"], whose="own", card=False)]
        with raises(self, TooMany, "most", 1000):
            Given(Rules({}, deeds), [{}, {}])
        bounded = [Deed("a", opens=True, answers=["a"], whose="own")]
        given = Given(Rules({}, bounded), [{"a": 9}, {}])
        # The first state, and for each number of cards used all heights from 0 on.
        self.assertEqual(len(given), 1 + sum(used + 1 for used in range(1, 10)))

    def test_1000_and_1001_states(self):
        deeds = [Deed("a", opens=True, answers=["a", "b"], whose="own"),
                 Deed("b", answers=["a", "b", "c"]), Deed("c", answers=["a", "b"])]
        rules = Rules({}, deeds)
        hands = [{"a": 9}, {"a": 1, "b": 1, "c": 1}]
        self.assertEqual(states_of(State(rules, hands=hands)), 1000)
        self.assertEqual(len(Given(rules, hands)), 1000)
        deeds = [Deed("a", opens=True, answers=["a"], whose="other"),
                 Deed("b", answers=["a", "b"], whose="other")]
        rules = Rules({}, deeds)
        hands = [{"a": 2, "b": 1}, {"a": 3, "b": 9}]
        self.assertEqual(states_of(State(rules, hands=hands)), 1001)
        with raises(self, TooMany, "most", 1000):
            Given(rules, hands)

    def test_caller_may_change_what_was_given_and_told(self):
        hands = [{"a": 1, "hit": 1}, {}]
        given = Given(two(), hands)
        hands[0].clear()
        hands.pop()
        wanted = list(given.plays(60))
        for _ in range(2):
            given.results().clear()
            for row in given.left((1,)):
                row[0]["hit"] = 7
                row.clear()
            given.left((1,)).clear()
            given.shortest((1,)).clear()
            for play in given.plays(60):
                play.clear()
        self.assertEqual(given.results(), [(0,), (1,)])
        self.assertEqual(given.left((1,)), [[{"hit": 1}, {}]])
        self.assertEqual(given.shortest((1,)), wanted[0])
        self.assertEqual(list(given.plays(60)), wanted)


def states_of(first):
    """How many states plays come to, gone through by State."""
    known = set()
    todo = [first]
    while todo:
        state = todo.pop()
        for move, behind in list(state.lays()) + list(state.dones()):
            key = (behind.table, tuple(behind.pile), str(behind.hands))
            if key not in known:
                known.add(key)
                if not behind.is_over:
                    todo.append(behind)
    return 1 + len(known)


class AgreementTest(unittest.TestCase):
    """Given hands and State go through the same plays; all hands have all that some have."""

    def some(self):
        for seed in range(90):
            rules = made_rules(seed)
            hands = some_hands(seed, rules)
            try:
                yield rules, hands, Given(rules, hands)
            except TooMany:
                continue

    def test_plays_and_states(self):
        compared = 0
        for rules, hands, given in self.some():
            state = State(rules, hands=hands)
            self.assertEqual(len(given), states_of(state))
            if len(given) > 60:
                continue
            compared += 1
            plays = plays_from(state, 5)
            self.assertEqual(list(given.plays(5)), [moves for moves, end in plays])
            for table in rules.tables():
                ends = [(moves, end) for moves, end in plays if end.table == table]
                for moves, end in ends:
                    self.assertIn(end.hands, given.left(table))
                if ends:
                    fewest = min(len(moves) for moves, end in ends)
                    first = [moves for moves, end in ends if len(moves) == fewest][0]
                    self.assertEqual(given.shortest(table), first)
        self.assertGreater(compared, 40)

    def test_how_many(self):
        for rules, hands, given in self.some():
            self.assertEqual(given.results(), sorted(
                table for table in rules.tables() if given.shortest(table) is not None))
            many = given.many()
            if many is not None and many < 2000:
                self.assertEqual(len(list(given.plays(60))), many)
            if many is None:
                self.assertIs(given.is_endless, True)
            if given.results():
                self.assertNotEqual(many, 0)

    def test_shortest_is_the_first_play_of_its_length(self):
        for rules, hands, given in self.some():
            for table in given.results():
                shortest = given.shortest(table)
                if len(shortest) > 6 or len(given) > 200:
                    continue
                state = State(rules, hands=hands)
                plays = [play for play in given.plays(len(shortest))
                         if state.played(play)[-1].table == table]
                self.assertEqual(plays[0], shortest)
                self.assertEqual({len(play) for play in plays}, {len(shortest)})

    def test_all_hands_have_all_that_given_hands_have(self):
        for rules, hands, given in self.some():
            outlook = Outlook(rules)
            for table in given.results():
                self.assertIn(table, outlook.results())
            if given.is_endless:
                self.assertIsNotNone(outlook.ring())

    def test_what_comes_about_with_full_hands_comes_about_with_some(self):
        rules = two()
        given = Given(rules, [{"a": 1, "hit": 3}, {}])
        self.assertEqual(given.results(), Outlook(rules).results())
        ring = Outlook(striking(False)).ring()
        hands = [{"a": 1}, {}]
        self.assertEqual(len(State(striking(False), hands=hands).played(ring[0] + ring[1] * 3)), 7)
