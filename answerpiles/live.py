"""Live tables: a pile that is played, change by change, each of which can be taken back.

A row is a tuple (change, position behind it, reading behind it); a change is
a move, a pass, or a tuple ("asking", reading).
"""

from answerpiles.asking import choices, chooser, first_position, has_ended, is_choice, is_reading
from answerpiles.errors import BadArgument, BadMove, BadText, NothingLeft
from answerpiles.hands import told_hands
from answerpiles.kinds import is_number, is_row
from answerpiles.piles import State
from answerpiles.plays import move_text, read_digit, read_move

MOST_PASSES = 99


class Trial:
    """A context, at the end of which a live table is as it was if an error has come."""

    def __init__(self, live):
        self._live = live
        self._past = []
        self._future = []

    def __enter__(self):
        self._past, self._future = self._live.kept()
        return self._live

    def __exit__(self, kind, value, trace):
        live = self._live
        if kind is not None:
            live._past = self._past
            live._future = self._future


class Live:
    """A live table: a position, the changes that led to it, and those that were taken back."""

    def __init__(self, rules, hands, *, table=None, asking="again"):
        self._first = (None, first_position(rules, hands, table, asking), asking)
        self._rules = rules
        self._past = []
        self._future = []

    @staticmethod
    def read(rules, hands, text, *, table=None, asking="again"):
        """The live table with the changes of a text."""
        live = Live(rules, hands, table=table, asking=asking)
        if not isinstance(text, str):
            raise BadText(0)
        lines = text.split("\n") if text else []
        for at, line in enumerate(lines):
            row = row_behind(rules.plan, live.last_row(), read_change(line))
            if row is None:
                raise BadText(at)
            live.add_rows([row])
        return live

    @property
    def position(self):
        """The position."""
        return self.last_row()[1]

    @property
    def state(self):
        """The table, the pile and the hands."""
        table, pile, hands, _, _, _ = self.position
        return State(self._rules, table, pile, hands=told_hands(hands))

    @property
    def asked(self):
        """The seat that chooses, or None if the pile has ended."""
        return chooser(self.position)

    @property
    def is_over(self):
        """Whether the pile has ended."""
        return has_ended(self.position)

    @property
    def asking(self):
        """The reading by which seats are asked."""
        return self.last_row()[2]

    @asking.setter
    def asking(self, value):
        self.ask(value)

    def ask(self, reading):
        """Sets the reading, which counts from the next laying or done on."""
        if not is_reading(reading):
            raise BadArgument(reading)
        self.add_rows([row_behind(self._rules.plan, self.last_row(), ("asking", reading))])

    def moves(self):
        """The moves that can be chosen."""
        return [move for move, _ in choices(self._rules.plan, self.asking, self.position)]

    def do(self, move):
        """Makes a move, or passes."""
        self.tried([move])

    def lay(self, word, *, goal=None, calls=()):
        """The seat that is asked lays a deed."""
        self.do(("lay", self.asked, word, goal, calls))

    def pass_on(self):
        """The seat that is asked passes."""
        self.do(("pass", self.asked))

    def end_top(self, way="steps", *, struck=(), calls=()):
        """The top is done."""
        self.do(("done", way, struck, calls))

    def passes(self, most=1):
        """Passes as long as a seat can, at most so many times, and tells how often."""
        if not is_number(most, 0, MOST_PASSES):
            raise BadArgument(most)
        many = 0
        while many < most and self.position[3]:
            self.pass_on()
            many += 1
        return many

    def tried(self, moves):
        """Makes all of some moves, or none of them."""
        if not is_row(moves):
            raise BadMove(moves)
        rows = []
        last = self.last_row()
        for move in moves:
            row = row_behind(self._rules.plan, last, move) if is_choice(move) else None
            if row is None:
                raise BadMove(move)
            rows.append(row)
            last = row
        self.add_rows(rows)

    def undo(self):
        """Takes the last change back."""
        if not self._past:
            raise NothingLeft()
        self._future.append(self._past.pop())

    def redo(self):
        """Makes the change again that was taken back last."""
        if not self._future:
            raise NothingLeft()
        self._past.append(self._future.pop())

    def played(self):
        """The moves so far, without passes."""
        return [change for change, _, _ in self._past if change[0] in ("lay", "done")]

    def journal(self):
        """The changes as a text."""
        return "\n".join([change_text(change) for change, _, _ in self._past])

    def copied(self):
        """A live table that is equal, and goes on by itself."""
        _, position, asking = self._first
        other = Live(self._rules, told_hands(position[2]), table=position[0], asking=asking)
        other._past, other._future = self.kept()
        return other

    def trial(self):
        """A context, at the end of which this is as it was if an error has come."""
        return Trial(self)

    def last_row(self):
        """The last row, or the one ahead of all changes."""
        return self._past[-1] if self._past else self._first

    def add_rows(self, rows):
        """Keeps rows behind the last one, if there are any."""
        if rows:
            self._past.extend(rows)
            self._future = []

    def kept(self):
        """Copies of the rows that can be taken back, and of those that can be made again."""
        return (list(self._past), list(self._future))

    def __len__(self):
        return len(self._past)

    def __eq__(self, other):
        if not isinstance(other, Live):
            return False
        if self._rules != other._rules:
            return False
        return self.last_row()[1:] == other.last_row()[1:]


def row_behind(plan, row, change):
    """The row behind another one with a change, or None if it cannot be made, or is none."""
    _, position, reading = row
    if change is None:
        return None
    if change[0] == "asking":
        return (change, position, change[1])
    for move, behind in choices(plan, reading, position):
        if move == change:
            return (change, behind, reading)
    return None


def change_text(change):
    """The line of a change."""
    if change[0] in ("pass", "asking"):
        return f"{change[0]} {change[1]}"
    return move_text(change)


def read_change(line):
    """The change of a line, or None if it is the line of none."""
    words = line.split(" ")
    if len(words) == 2 and words[0] == "pass":
        return ("pass", read_digit(words[1]))
    if len(words) == 2 and words[0] == "asking" and is_reading(words[1]):
        return ("asking", words[1])
    return read_move(line)
