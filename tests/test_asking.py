"""Positions, and who is asked when by each reading [14]."""

import unittest

from answerpiles.asking import is_position
from answerpiles.errors import BadRules
from answerpiles.force import Game
from answerpiles.rules import Deed, Rules, Waking

from helps import ODD, odd_but, raises
from test_rings import lay

DONE = ("done", "steps", (), ())


def talk(seats):
    """An opening that all may answer; what is done gives."""
    deeds = [Deed("a", opens=True, steps=[("more", "m")]), Deed("b", answers=["a", "b"])]
    return Rules({"m": 3}, deeds, seats=seats)


def cards(*numbers):
    """Hands with one a for seat 0, and so many b."""
    hands = [{"b": number} for number in numbers]
    hands[0]["a"] = 1
    return hands


def passing(seat):
    return ("pass", seat)


class Table:
    """A position that is followed move by move."""

    def __init__(self, game):
        self.game = game
        self.at = game.first

    def do(self, *moves):
        for move in moves:
            assert move in self.game.moves(self.at), (move, self.game.moves(self.at))
            self.at = self.game.after(self.at, move)
        return self.asks()

    def asks(self):
        """Who is still to be asked, who has passed, who laid last, and who chooses."""
        return self.at[3:] + (self.game.mover(self.at),)


def opened(asking, *numbers):
    return Table(Game(talk(len(numbers)), cards(*numbers), asking=asking))


class ReadingsTest(unittest.TestCase):
    def test_ahead_of_the_opening(self):
        for asking in ["again", "once", "round"]:
            table = opened(asking, 1, 1, 1)
            self.assertEqual(table.asks(), ((), (), None, 0))
            self.assertEqual(table.game.moves(table.at), [lay(0, "a")])
            self.assertEqual(table.at, ((0,), (), ((("a", 1), ("b", 1)), (("b", 1),), (("b", 1),)),
                                        (), (), None))

    def test_behind_the_opening(self):
        self.assertEqual(opened("again", 1, 1).do(lay(0, "a")), ((1, 0), (), 0, 1))
        self.assertEqual(opened("once", 1, 1).do(lay(0, "a")), ((1, 0), (), 0, 1))
        self.assertEqual(opened("round", 1, 1).do(lay(0, "a")), ((1,), (), 0, 1))
        self.assertEqual(opened("again", 1, 1, 1).do(lay(0, "a")), ((1, 2, 0), (), 0, 1))
        self.assertEqual(opened("once", 1, 1, 1).do(lay(0, "a")), ((1, 2, 0), (), 0, 1))
        self.assertEqual(opened("round", 1, 1, 1).do(lay(0, "a")), ((1, 2), (), 0, 1))

    def test_again_with_three_seats(self):
        table = opened("again", 1, 1, 2)
        self.assertEqual(table.do(lay(0, "a"), passing(1)), ((2, 0), (1,), 0, 2))
        # The one that laid on is asked last, one that has passed is asked anew.
        self.assertEqual(table.do(lay(2, "b")), ((0, 1, 2), (), 2, 0))
        self.assertEqual(table.do(lay(0, "b")), ((1, 2, 0), (), 0, 1))
        self.assertEqual(table.do(lay(1, "b")), ((2, 0, 1), (), 1, 2))
        self.assertEqual(table.do(passing(2)), ((0, 1), (2,), 1, 0))
        self.assertEqual(table.do(passing(0)), ((1,), (0, 2), 1, 1))
        self.assertEqual(table.do(passing(1)), ((), (0, 1, 2), 1, 1))
        self.assertEqual(table.do(DONE), ((0, 1, 2), (), 1, 0))

    def test_once_with_three_seats(self):
        table = opened("once", 1, 1, 2)
        self.assertEqual(table.do(lay(0, "a"), passing(1)), ((2, 0), (1,), 0, 2))
        # Seat 1 is asked no more, seat 2 once more behind those that are still to be asked.
        self.assertEqual(table.do(lay(2, "b")), ((0, 2), (), 2, 0))
        self.assertEqual(table.do(lay(0, "b")), ((2, 0), (), 0, 2))
        self.assertEqual(table.do(lay(2, "b")), ((0, 2), (), 2, 0))
        self.assertEqual(table.do(passing(0)), ((2,), (0,), 2, 2))
        self.assertEqual(table.do(passing(2)), ((), (0, 2), 2, 2))
        self.assertEqual(table.do(DONE), ((0, 1, 2), (), 2, 0))

    def test_round_with_three_seats(self):
        table = opened("round", 1, 1, 2)
        self.assertEqual(table.do(lay(0, "a"), passing(1)), ((2,), (1,), 0, 2))
        # Each seat was asked: the top is done by its own seat.
        self.assertEqual(table.do(lay(2, "b")), ((), (), 2, 2))
        self.assertEqual(table.game.moves(table.at), [DONE])
        self.assertEqual(table.do(DONE), ((0, 1, 2), (), 2, 0))
        self.assertEqual(table.do(lay(0, "b")), ((1, 2), (), 0, 1))
        self.assertEqual(table.do(lay(1, "b")), ((2,), (), 1, 2))
        self.assertEqual(table.do(passing(2)), ((), (2,), 1, 1))

    def test_two_seats(self):
        again = opened("again", 1, 2)
        self.assertEqual(again.do(lay(0, "a"), lay(1, "b")), ((0, 1), (), 1, 0))
        self.assertEqual(again.do(passing(0)), ((1,), (0,), 1, 1))
        self.assertEqual(again.do(lay(1, "b")), ((0, 1), (), 1, 0))
        once = opened("once", 1, 2)
        self.assertEqual(once.do(lay(0, "a"), lay(1, "b")), ((0, 1), (), 1, 0))
        self.assertEqual(once.do(passing(0)), ((1,), (0,), 1, 1))
        self.assertEqual(once.do(lay(1, "b")), ((1,), (), 1, 1))
        self.assertEqual(once.do(passing(1)), ((), (1,), 1, 1))
        turn = opened("round", 1, 2)
        self.assertEqual(turn.do(lay(0, "a"), lay(1, "b")), ((), (), 1, 1))
        turn = opened("round", 1, 2)
        self.assertEqual(turn.do(lay(0, "a"), passing(1)), ((), (1,), 0, 0))

    def test_the_end_of_the_pile(self):
        for asking, asked in [("again", (1, 0)), ("once", (1, 0)), ("round", (1,))]:
            table = opened(asking, 1, 2)
            table.do(lay(0, "a"), *[passing(seat) for seat in asked])
            self.assertEqual(table.do(DONE), ((), (), 0, None))
            self.assertEqual(table.at, ((1,), (), ((("b", 1),), (("b", 2),)), (), (), 0))
            self.assertEqual(table.game.moves(table.at), [])

    def test_the_seat_of_the_top_chooses(self):
        deeds = [Deed("a", opens=True, goals=["m"]), Deed("b", answers=["a"]),
                 Deed("c", goals=["m", "n"])]
        wakings = [Waking("done", "b", "c", by="next", may=True)]
        game = Game(Rules({"m": 1, "n": 1}, deeds, wakings), [{"a": 1}, {"b": 1}])
        table = Table(game)
        self.assertEqual(table.do(lay(0, "a", "m"), lay(1, "b"), passing(0), passing(1)),
                         ((), (0, 1), 1, 1))
        called = [("done", "steps", (), ((0, goal),)) for goal in ["m", "n"]]
        self.assertEqual(game.moves(table.at), sorted([DONE] + called, key=str))
        # The call is laid by seat 0, but calls are no layings.
        self.assertEqual(table.do(called[1]), ((0, 1), (), 1, 0))
        self.assertEqual(table.at[1][-1], ("c", 0, "n", False))
        self.assertEqual(table.do(passing(0), passing(1)), ((), (0, 1), 1, 0))


class PositionsTest(unittest.TestCase):
    def test_forms(self):
        rules = talk(3)
        entry = ("a", 0, None, False)
        above = ("b", 1, None, True)
        hands = ((("a", 1), ("b", 9)), (), (("b", 1),))
        right = [
            ((0,), (), hands, (), (), None), ((3,), (), hands, (), (), 2),
            ((0,), (entry,), hands, (1, 2, 0), (), 0), ((0,), (entry, above), hands, (), (), 2),
            ((0,), (entry,), hands, (0,), (1, 2), 0), ((0,), (entry,), hands, (2, 1), (0,), 1),
            ((0,), (entry,) + (above,) * 399, hands, (), (0, 1, 2), 1),
            ((0,), (("a", 2, None, False), ("a", 0, None, True)), ((), (), ()), (), (), 0),
        ]
        for position in right:
            self.assertIs(is_position(rules, position), True, position)
            self.assertIs(is_position(rules, list(position)), False)
            self.assertIs(is_position(rules, position[:5]), False)
            self.assertIs(is_position(rules, position + (0,)), False)
        self.assertIs(is_position(value=right[0], rules=rules), True)

    def wrong(self, at, values, base=None):
        base = base or ((0,), (("a", 0, None, False),), ((), (), ()), (2,), (1,), 0)
        self.assertIs(is_position(talk(3), base), True)
        for value in values:
            position = base[:at] + (value,) + base[at + 1:]
            self.assertIs(is_position(talk(3), position), False, position)

    def test_wrong_tables_and_piles(self):
        entry = ("a", 0, None, False)
        above = ("b", 1, None, True)
        self.wrong(0, odd_but((0,)) + [(4,), (-1,), (True,), [0], (0, 0), (1.0,)])
        self.wrong(1, odd_but() + [[entry], (above,), (entry, entry + (1,)), (("c", 0, None, False),),
                                   (("a", 3, None, False),), (("a", False, None, False),),
                                   (("a", 0, "m", False),), (("a", 0, None, 0),), (list(entry),),
                                   (entry,) + (above,) * 400, ()])

    def test_wrong_hands(self):
        self.wrong(2, ODD + [
            ((), ()), ((), (), (), ()), [(), (), ()], ([], (), ()), ((("a", 0),), (), ()),
            ((("a", 10),), (), ()), ((("a", True),), (), ()), ((("a", 1.0),), (), ()),
            ((("b", 1), ("a", 1)), (), ()), ((("a", 1), ("a", 1)), (), ()), ((["a", 1],), (), ()),
            ((("c", 1),), (), ()), ((("m", 1),), (), ()), ((([], 1),), (), ()), ((("a",),), (), ()),
            ((("a", 1, 1),), (), ()), (("a", 1), (), ()), ({"a": 1}, (), ()), ((("a", -1),), (), ())])
        free = Rules({}, [Deed("a", opens=True, card=False)])
        self.assertIs(is_position(free, ((), (), ((), ()), (), (), None)), True)
        self.assertIs(is_position(free, ((), (), ((("a", 1),), ()), (), (), None)), False)

    def test_wrong_seats(self):
        self.wrong(3, odd_but((), (0, 0)) + [(0, 0), [0], (3,), (-1,), (True,), (False,), (1,), (0, 1),
                                             (2, 2), (2.0,), ("0",), (None,)])
        self.wrong(4, odd_but((), (0, 0)) + [(0, 0), [1], (3,), (-1,), (True,), (False,), (2,), (1, 0),
                                             (1, 1), (0, 1, 2), (1.0,)])
        self.wrong(5, odd_but(0, 1, 2) + [3, -1, True, False, None, 0.0, (0,)])

    def test_what_an_empty_pile_has(self):
        base = ((0,), (), ((), (), ()), (), (), None)
        self.wrong(3, [(0,), (0, 1, 2)], base)
        self.wrong(4, [(0,), (0, 1, 2)], base)
        self.wrong(3, [(0,), (0, 1, 2)], base[:5] + (0,))
        self.wrong(4, [(0,), (0, 1, 2)], base[:5] + (0,))

    def test_any_value(self):
        for value in ODD + [talk(3), Game]:
            self.assertIs(is_position(talk(3), value), False)
        for value in ODD + [Rules]:
            with raises(self, BadRules, "part", value):
                is_position(value, value)

    def test_seats_of_the_rules(self):
        position = ((0,), (("a", 0, None, False),), ((), ()), (1, 0), (), 0)
        self.assertIs(is_position(talk(2), position), True)
        self.assertIs(is_position(talk(2), position[:3] + ((2,), (), 0)), False)
        self.assertIs(is_position(talk(2), position[:3] + ((), (2,), 0)), False)
        self.assertIs(is_position(talk(2), position[:5] + (2,)), False)
        self.assertIs(is_position(talk(3), position), False)
