"""The errors of the package, each with the value that was wrong."""


class PileError(ValueError):
    """Something that was given is not as it has to be."""


class BadDeed(PileError):
    """A part of a deed is wrong."""

    def __init__(self, part):
        self.part = part


class BadWaking(PileError):
    """A part of a waking is wrong."""

    def __init__(self, part):
        self.part = part


class BadRules(PileError):
    """A part of rules is wrong, or a value is no rules."""

    def __init__(self, part):
        self.part = part


class BadTable(PileError):
    """A value is no table of the rules."""

    def __init__(self, table):
        self.table = table


class BadEntry(PileError):
    """A value is no pile, or a pile is too high."""

    def __init__(self, entry):
        self.entry = entry


class BadHands(PileError):
    """A value is no hands."""

    def __init__(self, value):
        self.value = value


class BadMove(PileError):
    """A move that cannot be made, or a value that is no move."""

    def __init__(self, move):
        self.move = move


class BadPlace(PileError):
    """A value is no place that is reached."""

    def __init__(self, place):
        self.place = place


class BadText(PileError):
    """A line of a text cannot be read."""

    def __init__(self, line):
        self.line = line


class BadSeat(PileError):
    """A value is no seat."""

    def __init__(self, seat):
        self.seat = seat


class BadNumber(PileError):
    """A value is no number that is allowed there."""

    def __init__(self, number):
        self.number = number


class BadArgument(PileError):
    """A value is not of the kind that is asked for."""

    def __init__(self, value):
        self.value = value


class BadChange(PileError):
    """A value is no change, or one that cannot be made."""

    def __init__(self, value):
        self.value = value


class BadCommand(PileError):
    """A line is no command, or one that cannot be carried out."""

    def __init__(self, command):
        self.command = command


class TooMany(OverflowError):
    """There are more things to go through than the most that is allowed."""

    def __init__(self, most):
        self.most = most


class NotThere(LookupError):
    """A word is not among those that are known."""

    def __init__(self, word):
        self.word = word


class NothingLeft(LookupError):
    """There is nothing left to take back or to make again."""
