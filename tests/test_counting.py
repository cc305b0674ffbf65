"""How many plays end with just so many moves, and which ones [13]."""

import unittest

from answerpiles.counting import count_plays, count_without, play_at, rank_of
from answerpiles.errors import BadArgument, BadNumber, NotThere, TooMany
from answerpiles.given import Given
from answerpiles.piles import State
from answerpiles.rules import Deed, Rules, Waking

from helps import ODD, odd_but, raises
from somerules import made_rules, some_hands
from test_given import two
from test_rings import lay

DONE = ("done", "steps", (), ())
LAID = ("done", "steps", (), ((0, None),))


def small():
    return Given(two(), [{"a": 1, "hit": 2}, {"hit": 1}])


def answered():
    """An opening on which each of two seats may lay one deed after the other, for ever."""
    rules = Rules({}, [Deed("a", opens=True), Deed("b", answers=["a"], card=False)])
    return Given(rules, [{"a": 1}, {}])


def called():
    """A deed that only calls lay."""
    rules = Rules({}, [Deed("a", opens=True), Deed("b", answers=["a"]), Deed("c", card=False)],
                  [Waking("done", "a", "c", may=True)])
    return Given(rules, [{"a": 1, "b": 1}, {}])


class CountsTest(unittest.TestCase):
    def test_small(self):
        given = small()
        self.assertEqual([count_plays(given, moves) for moves in range(8)],
                         [0, 0, 1, 2, 0, 3, 6, 0])
        self.assertEqual([len(list(given.plays(moves))) for moves in range(8)],
                         [0, 0, 1, 3, 3, 6, 12, 12])
        self.assertEqual([count_without(given, moves, "hit") for moves in range(8)],
                         [0, 0, 1, 0, 0, 0, 0, 0])
        self.assertEqual([count_without(given, moves, "a") for moves in range(8)], [0] * 8)

    def test_exact_however_great(self):
        given = answered()
        # Each of two seats may lay, and what was laid is done.
        for moves in range(301):
            wanted = 2 ** (moves // 2 - 1) if moves >= 2 and moves % 2 == 0 else 0
            self.assertEqual(count_plays(given, moves), wanted)
        self.assertEqual(count_plays(given, 300), 2 ** 149)
        self.assertEqual(count_without(given, 300, "b"), 0)
        self.assertEqual(count_without(given, 2, "b"), 1)

    def test_calls_do_not_count_as_laid(self):
        given = called()
        self.assertEqual([count_plays(given, moves) for moves in range(7)], [0, 0, 1, 1, 1, 1, 0])
        for moves in range(7):
            self.assertEqual(count_without(given, moves, "c"), count_plays(given, moves))
        self.assertEqual([count_without(given, moves, "b") for moves in range(7)],
                         [0, 0, 1, 1, 0, 0, 0])

    def test_no_opening(self):
        given = Given(two(), [{"hit": 1}, {"a": 1}])
        for moves in (0, 1, 2, 300):
            self.assertEqual(count_plays(given, moves), 0)
            self.assertEqual(count_without(given, moves, "a"), 0)
            with raises(self, BadNumber, "number", 0):
                play_at(given, moves, 0)

    def test_agrees_with_plays(self):
        compared = 0
        for seed in range(80):
            rules = made_rules(seed)
            try:
                given = Given(rules, some_hands(seed, rules))
            except TooMany:
                continue
            plays = list(given.plays(5))
            self.assertEqual(sum(count_plays(given, moves) for moves in range(6)), len(plays))
            for moves in range(6):
                some = [play for play in plays if len(play) == moves]
                compared += len(some)
                self.assertEqual(count_plays(given, moves), len(some))
                self.assertEqual([play_at(given, moves, number) for number in range(len(some))],
                                 some)
                self.assertEqual([rank_of(given, play) for play in some], list(range(len(some))))
                for word in rules.words():
                    rest = [play for play in some
                            if not any(move[0] == "lay" and move[2] == word for move in play)]
                    self.assertEqual(count_without(given, moves, word), len(rest))
        self.assertGreater(compared, 100)


class NumbersTest(unittest.TestCase):
    def test_first_and_last(self):
        given = answered()
        last = 2 ** 149 - 1
        self.assertEqual(play_at(given, 300, 0), [lay(0, "a")] + [lay(0, "b"), DONE] * 149 + [DONE])
        self.assertEqual(play_at(given, 300, last),
                         [lay(0, "a")] + [lay(1, "b"), DONE] * 149 + [DONE])
        for number in [0, 1, 2, 10 ** 30, last - 1, last]:
            self.assertEqual(rank_of(given, play_at(given, 300, number)), number)
        for number in [last + 1, -1, 2 ** 300]:
            with raises(self, BadNumber, "number", number):
                play_at(given, 300, number)

    def test_plays_can_be_played(self):
        given = small()
        state = State(two(), hands=[{"a": 1, "hit": 2}, {"hit": 1}])
        for number in range(6):
            play = play_at(given, 6, number)
            self.assertEqual(len(play), 6)
            self.assertTrue(state.played(play)[-1].is_over)

    def test_no_move_and_300(self):
        given = small()
        self.assertEqual((count_plays(given, 0), count_plays(given, 300)), (0, 0))
        with raises(self, BadNumber, "number", 0):
            play_at(given, 0, 0)
        with raises(self, BadArgument, "value", []):
            rank_of(given, [])

    def test_what_is_no_play_that_ends(self):
        given = small()
        play = play_at(given, 5, 1)
        self.assertEqual(rank_of(given, play), 1)
        card = [lay(0, "a"), lay(1, "hit"), DONE]
        self.assertEqual(rank_of(given, card), 1)
        wrong = [play[:-1], play + [DONE], play + play, play[1:], tuple(play), [list(move) for move in play],
                 [lay(0, "a"), lay(False, "hit"), DONE], [lay(0, "a"), lay(0.0, "hit"), DONE],
                 [lay(0, "a"), lay(2, "hit"), DONE], [lay(0, "a"), ("pass", 1), DONE],
                 [lay(0, "a"), lay(1, "hit"), lay(1, "hit"), DONE, DONE],
                 [lay(0, "a"), None, DONE], [lay(1, "a"), DONE], [lay(0, "a"), ("done", "steps", [], ()), ],
                 [lay(0, "a"), LAID, DONE], [[]], [{}], iter(play)]
        for value in wrong:
            with raises(self, BadArgument, "value", value):
                rank_of(given, value)
        forever = answered()
        play = [lay(0, "a")] + [lay(0, "b"), DONE] * 149 + [DONE]
        self.assertEqual(rank_of(forever, play), 0)
        play = [lay(0, "a")] + [lay(0, "b"), DONE] * 150 + [DONE]
        with raises(self, BadArgument, "value", play):
            rank_of(forever, play)

    def test_caller_may_change_what_was_given_and_told(self):
        given = small()
        play = play_at(given, 5, 1)
        wanted = list(play)
        play.clear()
        self.assertEqual(play_at(given, 5, 1), wanted)
        self.assertEqual(rank_of(given, wanted), 1)
        self.assertEqual(wanted, play_at(given, 5, 1))


class WrongArgumentsTest(unittest.TestCase):
    def test_no_given(self):
        for value in ODD + [two(), Given, State(two())]:
            for call in [lambda: count_plays(value, "x"), lambda: count_without(value, "x", "x"),
                         lambda: play_at(value, "x", "x"), lambda: rank_of(value, "x")]:
                with raises(self, BadArgument, "value", value):
                    call()

    def test_wrong_numbers_of_moves(self):
        given = small()
        for value in odd_but(0, 1, 2, 7) + [301, -1, True, False, 2.0, "2"]:
            for call in [lambda: count_plays(given, value),
                         lambda: count_without(given, value, "x"),
                         lambda: play_at(given, value, "x")]:
                with raises(self, BadNumber, "number", value):
                    call()

    def test_wrong_words(self):
        given = small()
        for value in odd_but("a") + ["m", "hits", ["hit"], ("hit",)]:
            with raises(self, NotThere, "word", value):
                count_without(given, 2, value)

    def test_wrong_numbers_of_plays(self):
        given = small()
        self.assertEqual(count_plays(given, 2), 1)
        for value in odd_but(0) + [1, True, False, 0.0, "0"]:
            with raises(self, BadNumber, "number", value):
                play_at(given, 2, value)

    def test_wrong_plays(self):
        given = small()
        for value in ODD:
            with raises(self, BadArgument, "value", value):
                rank_of(given, value)

    def test_by_name(self):
        given = small()
        self.assertEqual(count_plays(moves=2, given=given), 1)
        self.assertEqual(count_without(word="hit", moves=2, given=given), 1)
        play = play_at(number=0, moves=2, given=given)
        self.assertEqual(rank_of(play=play, given=given), 0)
