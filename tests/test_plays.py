"""Plays as texts [12]."""

import unittest

from answerpiles.errors import BadMove, BadText
from answerpiles.piles import State
from answerpiles.plays import play_text, read_play

from helps import ODD, odd_but, raises
from somerules import Numbers, made_rules

LINES = {
    ("lay", 0, "a", None, ()): "lay 0 a -",
    ("lay", 2, "struck", "abcdefgh", ()): "lay 2 struck abcdefgh",
    ("lay", 1, "a", "m", ((3, "n"), (0, None))): "lay 1 a m / 3:n 0:-",
    ("done", "steps", (), ()): "done steps",
    ("done", "instead", (), ((1, "steps"),)): "done instead / 1:steps",
    ("done", "steps", ((0, None), (2, "m")), ()): "done steps struck 0:- 2:m",
    ("done", "steps", ((0, None),), ((1, None), (3, "m"))): "done steps struck 0:- / 1:- 3:m",
    ("done", "steps", ((0, "struck"),), ((0, "struck"),)): "done steps struck 0:struck / 0:struck",
}


class TextTest(unittest.TestCase):
    def test_lines(self):
        for move, line in LINES.items():
            self.assertEqual(play_text([move]), line)
            self.assertEqual(read_play(line), [move])

    def test_plays(self):
        moves = list(LINES)
        text = "\n".join(LINES.values())
        self.assertEqual(play_text(moves), text)
        self.assertEqual(play_text(tuple(moves)), text)
        self.assertEqual(read_play(text), moves)
        self.assertEqual(read_play(text=play_text(moves=[])), [])
        self.assertEqual(play_text([]), "")

    def test_what_is_written_is_read_back(self):
        for seed in range(60):
            numbers = Numbers(seed)
            state = State(made_rules(seed))
            moves = []
            while len(moves) < 12 and state.moves():
                moves.append(numbers.one_of(state.moves()))
                state = state.after(moves[-1])
            self.assertEqual(read_play(play_text(moves)), moves)

    def test_no_list_of_moves(self):
        for value in [value for value in ODD if not isinstance(value, (list, tuple))]:
            with raises(self, BadMove, "move", value):
                play_text(value)
        for value in [iter([]), {("done", "steps", (), ()): 1}]:
            with raises(self, BadMove, "move", value):
                play_text(value)

    def test_no_moves(self):
        right = ("done", "steps", (), ())
        wrong = odd_but(right, ("lay", 0, "a", None, ())) + [
            ("lay", 3, "a", None, ()), ("lay", -1, "a", None, ()), ("lay", True, "a", None, ()),
            ("lay", "0", "a", None, ()), ("lay", 0, "A", None, ()), ("lay", 0, None, None, ()),
            ("lay", 0, "a", "-", ()), ("lay", 0, "a", "", ()), ("lay", 0, "a", False, ()),
            ("lay", 0, "a", "goal", ()), ("lay", 0, "a", None, []), ("lay", 0, "a", None, None),
            ("lay", 0, "a", None), ("lay", 0, "a", None, (), ()), ["lay", 0, "a", None, ()],
            ("lay", 0, "a", None, ((4, None),)), ("lay", 0, "a", None, ((-1, None),)),
            ("lay", 0, "a", None, ((True, None),)), ("lay", 0, "a", None, ((0, "M"),)),
            ("lay", 0, "a", None, ((0, None), (0, "m"))), ("lay", 0, "a", None, (0, None)),
            ("lay", 0, "a", None, ([0, None],)), ("lay", 0, "a", None, ((0, None, None),)),
            ("lay", 0, "a", None, ((0, "goal"),)), ("lay", ["0"], "a", None, ()),
            ("done", "steps", ()), ("done", "steps", (), (), ()), ("done", "done", (), ()),
            ("done", None, (), ()), ("done", "steps", [], ()), ("done", "steps", (), []),
            ("done", "steps", ((1, None), (1, None)), ()), ("done", ["steps"], (), ()),
            ("pass", 0), ("pass", 0, "a", None, ()), ("pass", "steps", (), ()), (["done"], "steps", (), ()),
        ]
        for value in wrong:
            with raises(self, BadMove, "move", value):
                play_text([right, value, "none"])

    def test_no_text(self):
        for value in [value for value in ODD if not isinstance(value, str)] + [["done steps"]]:
            with raises(self, BadText, "line", 0):
                read_play(value)

    def test_no_lines(self):
        wrong = [
            "lay", "lay 0", "lay 0 a", "lay 0 a - ", " lay 0 a -", "lay  0 a -", "lay 0 a  -",
            "lay 3 a -", "lay 00 a -", "lay +0 a -", "lay \u0660 a -", "lay 0 A -", "lay 0 a M",
            "lay 0 a None", "lay 0 - -", "lay 0 a goal", "lay 0 a - /", "lay 0 a - / ",
            "lay 0 a - 0:-", "lay 0 a - / 4:-", "lay 0 a - / 0", "lay 0 a - / 0:", "lay 0 a - / :-",
            "lay 0 a - / 0:- 0:m", "lay 0 a - / 0:-  1:-", "lay 0 a - / 00:-", "lay 0 a - / 0:m:n",
            "lay 0 a - struck 0:-", "lay 0 a - / 0:- / 1:-", "lay 0 a -/ 0:-", "lay 0 a - / 0:goal",
            "LAY 0 a -", "lay\t0 a -", "lay 0 a -\r", "lay 0 abcdefghi -", "lay 0 a - struck",
            "done", "done ", "done done", "done steps ", "done steps struck", "done steps /",
            "done steps struck /", "done steps struck / 0:-", "done steps struck 0:- /",
            "done steps / 0:- struck 1:-", "done steps 0:-", "done steps struck 0:- struck 1:-",
            "done steps / 0:- / 1:-", "done steps struck 1:- 1:-", "done  steps", "done steps/ 0:-",
            "pass 0", "", " ", "-", "play", "done steps struck 0:-\x0b", "done steps\x0c",
        ]
        for line in wrong:
            if line:
                with raises(self, BadText, "line", 0):
                    read_play(line)
            for at in range(3):
                lines = ["lay 0 a -"] * at + [line, "none", "done steps"]
                with raises(self, BadText, "line", at):
                    read_play("\n".join(lines))

    def test_no_line_feed_behind_the_last_line(self):
        with raises(self, BadText, "line", 1):
            read_play("done steps\n")
        with raises(self, BadText, "line", 0):
            read_play("\n")
        with raises(self, BadText, "line", 0):
            read_play("\ndone steps")
        for text in ["done steps\r\ndone steps", "done steps\u2028done steps"]:
            with raises(self, BadText, "line", 0):
                read_play(text)

    def test_caller_may_change_what_was_told(self):
        moves = read_play("done steps")
        moves.clear()
        self.assertEqual(len(read_play("done steps")), 1)
