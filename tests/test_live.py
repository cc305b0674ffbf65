"""Live tables: changes, what can be taken back, journals and trials [16]."""

import unittest

import refasking

from answerpiles.errors import BadArgument, BadHands, BadMove, BadRules, BadTable, BadText, NothingLeft
from answerpiles.errors import TooMany
from answerpiles.force import Game
from answerpiles.live import Live
from answerpiles.piles import State
from answerpiles.plays import play_text
from answerpiles.rules import Deed, Rules, Waking

from helps import ODD, odd_but, raises
from somerules import Numbers, made_rules, some_hands
from test_asking import DONE, cards, lay, passing, talk
from test_force import READINGS, duel, tower
from test_given import two


def opened(asking, *numbers):
    """A live table behind the opening."""
    live = Live(talk(len(numbers)), cards(*numbers), asking=asking)
    live.lay("a")
    return live


def asks(live):
    return live.position[3:] + (live.asked,)


def whole(live):
    """All that a live table tells, also of what can be undone and redone."""
    told = []
    one = live.copied()
    for step in [one.undo, one.redo]:
        while True:
            told.append((one.position, one.asking, one.journal(), one.played(), one.moves(), len(one)))
            try:
                step()
            except NothingLeft:
                break
    return [live == one] + told[:1] + told


class SmallTest(unittest.TestCase):
    def test_ahead_of_the_opening(self):
        live = Live(duel(), [{"a": 1, "hit": 0}, {"hit": 2}], table=(1,), asking="once")
        self.assertEqual(live.position, ((1,), (), ((("a", 1),), (("hit", 2),)), (), (), None))
        self.assertEqual(live.state, State(duel(), (1,), hands=[{"a": 1}, {"hit": 2}]))
        self.assertEqual((live.asked, live.is_over, live.asking), (0, False, "once"))
        self.assertEqual((len(live), live.played(), live.journal()), (0, [], ""))
        self.assertEqual(live.moves(), [lay(0, "a")])
        self.assertEqual(live.passes(99), 0)

    def test_a_pile(self):
        live = Live(duel(), [{"a": 1}, {"hit": 1}])
        self.assertEqual(live.asking, "again")
        self.assertIsNone(live.lay("a"))
        self.assertEqual(live.moves(), [lay(1, "hit"), passing(1)])
        self.assertIsNone(live.do(lay(1, "hit")))
        self.assertIsNone(live.pass_on())
        self.assertEqual((live.asked, live.is_over, len(live)), (1, False, 3))
        self.assertEqual(live.passes(), 1)
        self.assertEqual(live.moves(), [DONE])
        self.assertIsNone(live.end_top())
        self.assertEqual((live.asked, live.is_over, live.moves(), len(live)), (None, True, [], 5))
        self.assertEqual(live.position, ((0,), (), ((), ()), (), (), 1))
        self.assertEqual(live.state, State(duel(), (0,), hands=[{}, {}]))
        self.assertEqual(live.played(), [lay(0, "a"), lay(1, "hit"), DONE])
        self.assertEqual(live.journal(), "lay 0 a -\nlay 1 hit -\npass 0\npass 1\ndone steps")

    def test_calls_and_goals(self):
        deeds = [Deed("a", opens=True, goals=["m", "n"]), Deed("b", answers=["a"], steps=[("strike",)]),
                 Deed("c", goals=["m"])]
        wakings = [Waking("laid", "b", "c", may=True), Waking("struck", "a", "c", by="next"),
                   Waking("done", "b", "c", may=True), Waking("instead", "c", "a")]
        rules = Rules({"m": 1, "n": 1}, deeds, wakings)
        live = Live(rules, [{"a": 1}, {"b": 1}])
        with raises(self, BadMove, "move", lay(0, "a")):
            live.lay("a")
        live.lay("a", goal="n")
        live.lay("b", calls=((0, "m"),))
        self.assertEqual(live.state.pile[1:], [("b", 1, None, True), ("c", 1, "m", True)])
        self.assertEqual(live.passes(99), 2)
        live.end_top("instead", calls=((3, "m"),))
        live.passes(99)
        live.end_top()
        live.passes(99)
        live.end_top(way="steps", struck=((1, "m"),), calls=((2, "m"),))
        self.assertEqual(live.state.pile, [("c", 1, "m", False), ("c", 1, "m", False)])
        self.assertEqual(live.journal().split("\n")[-1], "done steps struck 1:m / 2:m")
        live.undo()
        live.end_top(struck=((1, "m"),))
        self.assertEqual(live.journal().split("\n")[-1], "done steps struck 1:m")
        self.assertEqual(play_text(live.played()), "\n".join(
            line for line in live.journal().split("\n") if line[:4] != "pass"))
        self.assertEqual(Live.read(rules, [{"a": 1}, {"b": 1}], live.journal()), live)

    def test_the_seat_that_is_asked(self):
        live = opened("again", 1, 1)
        live.lay("b")
        self.assertEqual(live.played()[-1], lay(1, "b"))
        live.lay("b")
        self.assertEqual(live.played()[-1], lay(0, "b"))
        with raises(self, BadMove, "move", lay(1, "b")):
            live.lay("b")
        live.passes(2)
        with raises(self, BadMove, "move", passing(0)):
            live.pass_on()
        with raises(self, BadMove, "move", lay(0, "b")):
            live.lay("b")

    def test_no_opening(self):
        live = Live(duel(), [{"hit": 1}, {"a": 1}])
        self.assertEqual((live.moves(), live.asked, live.is_over), ([], 0, False))
        with raises(self, BadMove, "move", passing(0)):
            live.pass_on()
        with raises(self, BadMove, "move", DONE):
            live.end_top()

    def test_behind_the_end_of_the_pile(self):
        live = Live(two(), [{"a": 2}, {}])
        live.lay("a")
        live.passes(9)
        live.end_top()
        self.assertEqual(live.moves(), [])
        for call, move in [(live.pass_on, passing(None)), (lambda: live.lay("a"), lay(None, "a")),
                           (live.end_top, DONE), (lambda: live.do(lay(0, "a")), lay(0, "a")),
                           (lambda: live.tried([passing(0)]), passing(0))]:
            with raises(self, BadMove, "move", move):
                call()
        self.assertEqual((live.passes(99), len(live)), (0, 4))
        live.ask("round")
        self.assertEqual((live.asking, len(live), live.is_over), ("round", 5, True))

    def test_400_entries(self):
        live = Live(tower([Deed("c", answers=["x"])]), [{}, {"c": 1}])
        live.lay("x")
        for _ in range(133):
            live.passes(2)
            live.end_top(calls=live.moves()[0][3])
        self.assertEqual(len(live.state), 400)
        self.assertEqual(live.asked, 0)
        live.pass_on()
        self.assertEqual(live.moves(), [passing(1)])
        with raises(self, BadMove, "move", lay(1, "c")):
            live.lay("c")
        live.pass_on()
        self.assertEqual((live.moves(), live.asked, live.is_over), ([], 0, False))
        full = ("done", "steps", (), ((0, None), (1, None), (2, None), (3, None)))
        with raises(self, BadMove, "move", full):
            live.do(full)

    def test_no_limit_of_positions(self):
        rules = Rules({}, [Deed("a", opens=True, answers=["a"], card=False)])
        with raises(self, TooMany, "most", 1500):
            Game(rules, [{}, {}])
        live = Live(rules, [{}, {}])
        for _ in range(400):
            live.lay("a")
        self.assertEqual(len(live.state), 400)
        self.assertEqual(live.moves(), [passing(live.asked)])

    def test_by_name(self):
        live = Live(hands=[{"a": 1}, {"hit": 1}], rules=duel(), asking="round", table=(1,))
        live.lay(word="a", goal=None, calls=())
        live.ask(reading="again")
        self.assertEqual(live.passes(most=1), 1)
        live.undo()
        live.do(move=passing(1))
        live.end_top(way="steps", struck=(), calls=())
        other = Live.read(text=live.journal(), hands=[{"a": 1}, {"hit": 1}], rules=duel(), asking="round",
                          table=(1,))
        self.assertEqual(other, live)
        other.tried(moves=[])
        for call in [lambda: live.lay("a", None), lambda: live.end_top("steps", ()),
                     lambda: Live(duel(), [{}, {}], (0,)),
                     lambda: Live.read(duel(), [{}, {}], "", (0,))]:
            self.assertRaises(TypeError, call)


class ReadingsTest(unittest.TestCase):
    def test_readings_set_in_the_middle_of_a_round(self):
        live = opened("round", 2, 2, 2)
        self.assertEqual(asks(live), ((1, 2), (), 0, 1))
        live.asking = "again"
        self.assertEqual((asks(live), live.asking), (((1, 2), (), 0, 1), "again"))
        live.pass_on()
        self.assertEqual(asks(live), ((2,), (1,), 0, 2))
        live.lay("b")
        self.assertEqual(asks(live), ((0, 1, 2), (), 2, 0))
        live.ask("once")
        self.assertEqual(asks(live), ((0, 1, 2), (), 2, 0))
        live.pass_on()
        live.lay("b")
        self.assertEqual(asks(live), ((2, 1), (), 1, 2))
        live.ask("round")
        live.lay("b")
        self.assertEqual(asks(live), ((1,), (), 2, 1))
        live.pass_on()
        live.ask("once")
        live.end_top()
        self.assertEqual(asks(live), ((0, 1, 2), (), 2, 0))

    def test_ahead_of_the_opening(self):
        live = Live(talk(2), cards(1, 1))
        live.asking = "round"
        live.lay("a")
        self.assertEqual((asks(live), live.journal()), (((1,), (), 0, 1), "asking round\nlay 0 a -"))

    def test_setting_is_a_change(self):
        live = opened("again", 1, 1)
        live.asking = "again"
        self.assertEqual((len(live), live.journal()), (2, "lay 0 a -\nasking again"))
        self.assertIsNone(live.ask("once"))
        self.assertEqual((len(live), live.asking), (3, "once"))
        self.assertEqual(live.played(), [lay(0, "a")])
        live.undo()
        self.assertEqual((len(live), live.asking), (2, "again"))
        live.redo()
        self.assertEqual((len(live), live.asking), (3, "once"))

    def test_passes(self):
        live = opened("again", 1, 1, 1)
        before = live.copied()
        self.assertEqual((live.passes(0), len(live)), (0, 1))
        self.assertEqual((live.passes(), len(live)), (1, 2))
        self.assertEqual((live.passes(99), len(live)), (2, 4))
        self.assertEqual((live.passes(99), len(live)), (0, 4))
        self.assertEqual(live.journal(), "lay 0 a -\npass 1\npass 2\npass 0")
        self.assertEqual(before.passes(2), 2)
        self.assertEqual(before.asked, 0)
        live.end_top()
        self.assertEqual(live.passes(99), 0)


class ChangesTest(unittest.TestCase):
    def test_both_ends(self):
        live = Live(duel(), [{"a": 1}, {"hit": 1}])
        for call in [live.undo, live.redo]:
            self.assertRaises(NothingLeft, call)
        live.lay("a")
        self.assertRaises(NothingLeft, live.redo)
        self.assertIsNone(live.undo())
        self.assertEqual((len(live), live.asked, live.position[5]), (0, 0, None))
        self.assertRaises(NothingLeft, live.undo)
        self.assertIsNone(live.redo())
        self.assertEqual((len(live), live.asked), (1, 1))
        self.assertRaises(NothingLeft, live.redo)

    def test_one_behind_another(self):
        live = opened("again", 1, 1)
        live.lay("b")
        live.ask("round")
        live.passes(2)
        told = []
        while len(live):
            told.append((live.position, live.asking, live.journal()))
            live.undo()
        while told:
            live.redo()
            self.assertEqual((live.position, live.asking, live.journal()), told.pop())
        self.assertRaises(NothingLeft, live.redo)

    def test_a_new_change(self):
        for change in [lambda live: live.pass_on(), lambda live: live.ask("once"), lambda live: live.lay("b"),
                       lambda live: live.passes(1), lambda live: live.tried([passing(1)]),
                       lambda live: setattr(live, "asking", "again"), lambda live: live.do(passing(1))]:
            live = opened("again", 1, 1)
            live.pass_on()
            live.undo()
            change(live)
            self.assertRaises(NothingLeft, live.redo)
            self.assertEqual(len(live), 2)

    def test_what_is_no_change(self):
        live = opened("again", 1, 1)
        live.pass_on()
        live.undo()
        live.passes(0)
        live.tried([])
        live.tried(())
        live.moves()
        live.journal()
        for call in [lambda: live.do("x"), lambda: live.lay("a"), lambda: live.ask("x"), live.end_top,
                     lambda: live.tried([passing(1), passing(1)]), lambda: live.passes(100)]:
            self.assertRaises((BadMove, BadArgument), call)
        with live.trial():
            pass
        live.redo()
        self.assertEqual(live.journal(), "lay 0 a -\npass 1")

    def test_tried(self):
        live = opened("again", 1, 1)
        moves = [lay(1, "b"), passing(0), passing(1), DONE, passing(0)]
        self.assertIsNone(live.tried(moves))
        self.assertEqual(len(live), 6)
        self.assertEqual(asks(live), ((1,), (0,), 1, 1))
        before = whole(live)
        with raises(self, BadMove, "move", passing(0)):
            live.tried((passing(1), DONE, passing(0)))
        with raises(self, BadMove, "move", "x"):
            live.tried([passing(1), DONE, "x", "y"])
        self.assertEqual(whole(live), before)
        live.tried((passing(1), DONE))
        self.assertIs(live.is_over, True)
        for _ in range(7):
            live.undo()
        self.assertEqual(len(live), 1)
        live.redo()
        self.assertEqual(live.played(), [lay(0, "a"), lay(1, "b")])


class CopiesTest(unittest.TestCase):
    def test_copies(self):
        live = opened("once", 1, 2)
        live.passes(1)
        live.lay("b")
        live.undo()
        copy = live.copied()
        self.assertIsInstance(copy, Live)
        self.assertEqual(whole(copy), whole(live))
        self.assertTrue(copy == live)
        before = whole(live)
        copy.redo()
        self.assertFalse(copy == live)
        self.assertEqual(copy.journal(), "lay 0 a -\npass 1\nlay 0 b -")
        self.assertEqual(whole(live), before)
        live.redo()
        live.passes(1)
        self.assertEqual(len(copy), 3)
        copy.passes(1)
        self.assertTrue(copy == live)
        for _ in range(4):
            copy.undo()
        self.assertRaises(NothingLeft, copy.undo)
        self.assertEqual(len(live), 4)

    def test_equal(self):
        live = opened("again", 1, 1)
        other = Live(talk(2), ({"a": 1, "b": 1}, {"b": 1}))
        self.assertFalse(live == other)
        other.lay("a")
        self.assertTrue(live == other)
        # What can be undone and redone does not count.
        other.ask("round")
        self.assertFalse(live == other)
        other.ask("again")
        self.assertTrue(live == other)
        self.assertFalse(live != other)
        more = Live(talk(2).changed(order="last"), cards(1, 1))
        more.lay("a")
        self.assertEqual(more.position, live.position)
        self.assertFalse(live == more)
        for value in ODD + [live.position, live.state, live.journal()]:
            self.assertIs(live == value, False)


class JournalsTest(unittest.TestCase):
    def hands(self):
        return cards(1, 1)

    def test_read(self):
        live = opened("round", 1, 1)
        live.ask("again")
        live.lay("b")
        live.passes(2)
        live.end_top()
        live.pass_on()
        text = live.journal()
        self.assertEqual(text, "lay 0 a -\nasking again\nlay 1 b -\npass 0\npass 1\ndone steps\npass 0")
        other = Live.read(talk(2), self.hands(), text, asking="round")
        self.assertIsInstance(other, Live)
        self.assertTrue(other == live)
        self.assertEqual(whole(other), whole(live))
        # A journal that ends in the middle.
        lines = text.split("\n")
        for end in range(len(lines), 0, -1):
            part = Live.read(talk(2), self.hands(), "\n".join(lines[:end]), asking="round")
            self.assertEqual((len(part), part.journal()), (end, "\n".join(lines[:end])))
            self.assertTrue(part == other)
            self.assertRaises(NothingLeft, part.redo)
            other.undo()
        empty = Live.read(talk(2), self.hands(), "")
        self.assertEqual((len(empty), empty), (0, Live(talk(2), self.hands())))

    def test_table(self):
        live = Live.read(talk(2), self.hands(), "lay 0 a -", table=(2,))
        self.assertEqual(live.position[0], (2,))
        self.assertEqual(live.asking, "again")
        copy = live.copied()
        copy.undo()
        self.assertEqual(copy.position[0], (2,))

    def bad(self, text, line, **more):
        with raises(self, BadText, "line", line):
            Live.read(talk(2), self.hands(), text, **more)

    def test_wrong_lines(self):
        for line in ["", " ", "pass", "pass 0", "pass 2", "pass 3", "pass -1", "pass 1 ", " pass 1", "pass  1",
                     "pass 01", "pass one", "pass True", "Pass 1", "pass 1 1", "asking", "asking Again",
                     "asking again ", "asking  again", "asking never", "ask once",
                     "again once", "done once", "asking again once", "lay 0 a -",
                     "lay 0 b -", "lay 2 b -", "lay 1 b", "lay 1 b m", "lay 1 b - /", "lay 1 b - / 0:-",
                     "lay 1 b - ", "done steps", "done", "undo", "lay 1 c -", "pass 1\r", "pass \u0661"]:
            self.bad("lay 0 a -\n" + line, 1)
            self.bad("lay 0 a -\n" + line + "\nnone", 1)
        self.bad("lay 0 a -\npass 1\n", 2)
        self.bad("\nlay 0 a -", 0)
        self.bad("pass 0", 0)
        self.bad("lay 0 a -\npass 1\npass 0\npass 1", 3)
        self.bad("lay 0 a -\npass 1\npass 0\ndone steps\npass 0", 4)
        self.bad("lay 0 a -\nlay 1 b -\npass 0\npass 1", 2, asking="round")

    def test_no_texts(self):
        for value in [one for one in ODD if not isinstance(one, str)] + [["lay 0 a -"], b"lay 0 a -"]:
            with raises(self, BadText, "line", 0):
                Live.read(talk(2), self.hands(), value)

    def test_in_which_order(self):
        with raises(self, BadRules, "part", 1):
            Live.read(1, 2, 3, table=4, asking=5)
        with raises(self, BadArgument, "value", 5):
            Live.read(talk(2), 2, 3, table=4, asking=5)
        with raises(self, BadTable, "table", 4):
            Live.read(talk(2), 2, 3, table=4)
        with raises(self, BadHands, "value", 2):
            Live.read(talk(2), 2, 3)
        with raises(self, BadText, "line", 0):
            Live.read(talk(2), self.hands(), 3)


class TrialsTest(unittest.TestCase):
    def test_without_an_error(self):
        live = opened("again", 1, 1)
        with live.trial() as same:
            self.assertIs(same, live)
            live.pass_on()
            live.ask("once")
        self.assertEqual(live.journal(), "lay 0 a -\npass 1\nasking once")
        live.undo()
        live.undo()
        self.assertEqual(len(live), 1)

    def test_left_by_an_error(self):
        live = opened("again", 1, 1)
        live.passes(2)
        live.undo()
        before = whole(live)
        for block in [lambda: live.pass_on(), lambda: live.undo(), lambda: live.redo(), lambda: live.ask("once"),
                      lambda: [live.undo(), live.undo(), live.ask("round")], lambda: None]:
            with self.assertRaises(KeyError):
                with live.trial():
                    block()
                    raise KeyError("out")
            self.assertEqual(whole(live), before)
        with raises(self, BadMove, "move", DONE):
            with live.trial():
                live.pass_on()
                live.end_top()
                live.end_top()
        self.assertEqual(whole(live), before)

    def test_one_behind_another(self):
        live = opened("again", 1, 1)
        trial = live.trial()
        with self.assertRaises(ValueError):
            with trial:
                live.pass_on()
                raise ValueError
        self.assertEqual(len(live), 1)
        live.lay("b")
        with trial as same:
            self.assertIs(same, live)
            live.pass_on()
        self.assertEqual(len(live), 3)
        before = whole(live)
        for _ in range(2):
            with self.assertRaises(ValueError):
                with trial:
                    live.pass_on()
                    live.end_top()
                    live.undo()
                    raise ValueError
            self.assertEqual(whole(live), before)
        # What comes behind an error is kept as always.
        live.pass_on()
        self.assertEqual(len(live), 4)
        live.undo()
        self.assertEqual(whole(live)[1], before[1])

    def test_one_within_another(self):
        live = opened("again", 1, 1)
        with live.trial():
            live.pass_on()
            with self.assertRaises(ValueError):
                with live.trial():
                    live.pass_on()
                    raise ValueError
            self.assertEqual(len(live), 2)
        self.assertEqual(live.journal(), "lay 0 a -\npass 1")


class AgreementTest(unittest.TestCase):
    def walk(self, seed, asking):
        """A live table, a row of changes of which was made, and the hands with which it began."""
        rules = made_rules(seed)
        hands = some_hands(seed, rules, 2)
        live = Live(rules, hands, asking=asking)
        numbers = Numbers(seed)
        for _ in range(14):
            moves = live.moves()
            if moves:
                live.do(numbers.one_of(moves))
        return rules, hands, live

    def test_as_a_game_is(self):
        followed = 0
        for seed in range(120):
            for asking in READINGS:
                rules, hands, live = self.walk(seed, asking)
                try:
                    game = Game(rules, hands, asking=asking)
                except TooMany:
                    continue
                lines = live.journal().split("\n") if len(live) else []
                again = Live(rules, hands, asking=asking)
                self.assertEqual(again.position, game.first)
                position = game.first
                for line in lines:
                    self.assertEqual((again.moves(), again.asked), (game.moves(position), game.mover(position)))
                    move = passing(int(line[5:])) if line[:4] == "pass" else live.played()[len(again.played())]
                    again.do(move)
                    position = game.after(position, move)
                    self.assertEqual(again.position, position)
                    followed += 1
                self.assertEqual(position, live.position)
        self.assertGreater(followed, 500)

    def test_as_states_are(self):
        for seed in range(120):
            rules, hands, live = self.walk(seed, READINGS[seed % 3])
            states = State(rules, hands=hands).played(live.played())
            state = states[-1] if states else State(rules, hands=hands)
            self.assertEqual(live.state, state)
            table, pile, kept = live.position[:3]
            self.assertEqual((live.state.table, live.state.pile), (table, list(pile)))
            self.assertEqual(live.state.hands, [dict(hand) for hand in kept])
            self.assertIs(live.is_over, state.is_over and len(live.played()) > 0)
            self.assertEqual(live.moves(), sorted(refasking.moves(rules, live.asking, live.position), key=str))

    def test_journals_and_changes(self):
        for seed in range(120):
            asking = READINGS[seed % 3]
            rules, hands, live = self.walk(seed, asking)
            read = Live.read(rules, hands, live.journal(), asking=asking)
            self.assertTrue(read == live)
            self.assertEqual(whole(read), whole(live))
            while len(live):
                live.undo()
            self.assertTrue(live == Live(rules, hands, asking=asking))
            while len(live) < len(read):
                live.redo()
            self.assertTrue(read == live)


class WrongArgumentsTest(unittest.TestCase):
    def test_of_the_class(self):
        for value in ODD + [Rules]:
            with raises(self, BadRules, "part", value):
                Live(value, 5, table=5, asking=5)
        for value in ODD + ["Again", "again ", ["again"], b"again"]:
            with raises(self, BadArgument, "value", value):
                Live(duel(), 5, table=5, asking=value)
        for value in odd_but(None, (0,)) + [[0], (True,), (2,), (0, 0), ()]:
            with raises(self, BadTable, "table", value):
                Live(duel(), 5, table=value)
        for value in odd_but([{}, {}]) + [[{"a": 10}, {}], [{"a": True}, {}], [{"b": 1}, {}], [{}]]:
            with raises(self, BadHands, "value", value):
                Live(duel(), value)

    def test_moves(self):
        live = opened("again", 1, 1)
        live.pass_on()
        live.undo()
        before = whole(live)
        wrong = [("pass", 0), ("pass", True), ("pass", 1.0), ["pass", 1], ("pass",), ("pass", 1, 1),
                 ("asking", "once"), lay(True, "b"), lay(0, "b"), lay(1, "a"), list(lay(1, "b")), None,
                 ("lay", 1, "b", None, []), ("lay", 1, "b", "m", ()), ("lay", 1, "b", None, ((0, None),)), DONE]
        for value in ODD + wrong:
            with raises(self, BadMove, "move", value):
                live.do(value)
            with raises(self, BadMove, "move", value):
                live.tried([passing(1), passing(0), value] if value != DONE else [value, passing(1)])
        for value in odd_but([], ()) + ["ab", {}, {passing(1): 1}, iter([passing(1)]), None, 5]:
            if not isinstance(value, (list, tuple)):
                with raises(self, BadMove, "move", value):
                    live.tried(value)
        self.assertEqual(whole(live), before)

    def test_parts_of_moves(self):
        live = opened("again", 1, 1)
        before = whole(live)
        for value in ODD:
            with raises(self, BadMove, "move", ("lay", 1, value, None, ())):
                live.lay(value)
            if value is not None:
                with raises(self, BadMove, "move", ("lay", 1, "b", value, ())):
                    live.lay("b", goal=value)
            if value != ():
                with raises(self, BadMove, "move", ("lay", 1, "b", None, value)):
                    live.lay("b", calls=value)
        live.passes(2)
        for value in ODD:
            with raises(self, BadMove, "move", ("done", value, (), ())):
                live.end_top(value)
            if value != ():
                with raises(self, BadMove, "move", ("done", "steps", value, ())):
                    live.end_top(struck=value)
                with raises(self, BadMove, "move", ("done", "steps", (), value)):
                    live.end_top(calls=value)
        live.undo()
        live.undo()
        self.assertEqual(whole(live)[1], before[1])

    def test_readings(self):
        live = opened("again", 1, 1)
        live.pass_on()
        live.undo()
        before = whole(live)
        for value in ODD + ["Once", "once ", ["once"], b"once"]:
            with raises(self, BadArgument, "value", value):
                live.ask(value)
            with raises(self, BadArgument, "value", value):
                live.asking = value
        self.assertEqual(whole(live), before)

    def test_numbers_of_passes(self):
        live = opened("again", 1, 1)
        before = whole(live)
        for value in odd_but(0, 1, 2, 7) + [100, -1, True, False, 1.0, "1"]:
            with raises(self, BadArgument, "value", value):
                live.passes(value)
        self.assertEqual(whole(live), before)

    def test_nothing_is_changed_by_an_error_of_undo(self):
        live = Live(duel(), [{"a": 1}, {"hit": 1}])
        live.lay("a")
        live.undo()
        self.assertRaises(NothingLeft, live.undo)
        live.redo()
        self.assertRaises(NothingLeft, live.redo)
        self.assertEqual(len(live), 1)


class CallersTest(unittest.TestCase):
    def test_caller_may_change_what_was_given_and_told(self):
        hands = [{"a": 1, "b": 1}, {"b": 1}]
        live = Live(talk(2), hands)
        hands[0].clear()
        hands.pop()
        moves = [lay(0, "a"), passing(1)]
        live.tried(moves)
        moves.clear()
        before = whole(live)
        live.moves().clear()
        live.played().clear()
        live.state.pile.clear()
        live.state.hands[0].clear()
        live.state.hands.clear()
        self.assertEqual(whole(live), before)
        self.assertEqual(live.state.hands, [{"b": 1}, {"b": 1}])

    def test_properties_cannot_be_set_but_one(self):
        live = Live(talk(2), cards(1, 1))
        for name in ["position", "state", "asked", "is_over"]:
            with self.assertRaises(AttributeError):
                setattr(live, name, None)
        live.asking = "once"
        self.assertEqual(live.asking, "once")
