"""Consoles: sessions that are led by lines."""

from answerpiles.errors import BadArgument, BadCommand, BadRules, NothingLeft, NotThere
from answerpiles.idle import needless, unlaid, unwoken, vain_mays
from answerpiles.mends import card_sets
from answerpiles.orders import readings, where_order_counts
from answerpiles.outcomes import always_ends, results_of
from answerpiles.plays import move_text
from answerpiles.rings import Outlook
from answerpiles.sessions import Session
from answerpiles.slips import slip_play, slips
from answerpiles.watched import FAILS, KINDS

FIGURES = "0123456789"


def table_text(table):
    """A table: its counts with commas between, or a stroke if there are no marks."""
    return ",".join([str(count) for count in table]) if table else "-"


def yes_or_no(value):
    """The line of whether something is so."""
    return ["yes" if value else "no"]


def move_lines(moves):
    """The lines of moves."""
    return [move_text(move) for move in moves]


def deed_lines(rules):
    """The lines of deeds."""
    return rules.words()


def ends_lines(rules):
    """Whether each pile ends with all hands."""
    return yes_or_no(always_ends(rules))


def can_lines(rules):
    """Whether no place never ends."""
    return yes_or_no(not Outlook(rules).never())


def results_lines(rules):
    """The tables with which a pile can end."""
    return [table_text(table) for table in results_of(rules)]


def ring_lines(rules):
    """The moves of a shortest ring."""
    ring = Outlook(rules).ring()
    if ring is None:
        return ["none"]
    return move_lines(ring[0]) + ["round"] + move_lines(ring[1])


def readings_lines(rules):
    """The orders, each with its tables."""
    told = readings(rules)
    return [" ".join([order] + [table_text(table) for table in told[order]]) for order in told]


def events_lines(rules):
    """Where the order of calls counts."""
    return [f"{event} {word} {table_text(table)}" for event, word, table in where_order_counts(rules)]


def slips_lines(rules):
    """The entries that slip."""
    return [" ".join(slip) for slip in slips(rules)]


def idle_lines(rules):
    """What is never laid, and which wakings that may make no odds."""
    found = [f"unlaid {word}" for word in unlaid(rules)]
    found.extend([f"unwoken {number}" for number in unwoken(rules)])
    return found + [f"vain {number}" for number in vain_mays(rules)]


def needless_lines(rules):
    """The needless parts."""
    return [f"{kind} {which}" for kind, which in needless(rules)]


def cards_lines(rules):
    """The least lists of deeds that let each pile end if they use a card."""
    return [" ".join(words) if words else "-" for words in card_sets(rules)]


QUESTIONS = {
    "deeds": deed_lines,
    "ends": ends_lines,
    "can": can_lines,
    "results": results_lines,
    "ring": ring_lines,
    "readings": readings_lines,
    "events": events_lines,
    "slips": slips_lines,
    "idle": idle_lines,
    "needless": needless_lines,
    "cards": cards_lines,
}


class Console:
    """A session that is led by lines."""

    def __init__(self, rules):
        self._session = Session(rules)

    @property
    def rules(self):
        """The rules as they are."""
        return self._session.rules

    def execute(self, line):
        """The texts that a line asks for, or the number of edits behind an edit."""
        if not isinstance(line, str):
            raise BadCommand(line)
        words = line.split(" ")
        if line in QUESTIONS:
            answer = QUESTIONS[line]
            return answer(self.rules)
        if is_slip_question(self.rules, words):
            play = slip_play(self.rules, words[1], words[2], words[3])
            return ["none"] if play is None else move_lines(play)
        try:
            self._make_edit(line, words)
        except (BadArgument, BadRules, NothingLeft, NotThere) as why:
            raise BadCommand(line) from why
        return [str(len(self._session))]

    def _make_edit(self, line, words):
        """Makes the edit of a line."""
        change = change_of(words)
        if words == ["undo"]:
            self._session.undo()
        elif change is not None:
            self._session.change(change)
        else:
            raise BadCommand(line)

    def __call__(self, line):
        return self.execute(line)

    def __len__(self):
        return len(self._session)


def is_slip_question(rules, words):
    """Whether the words of a line ask for the play of a slip."""
    if len(words) != 4 or words[0] != "slip":
        return False
    return words[1] in rules and words[2] in KINDS and words[3] in FAILS


def change_of(words):
    """The change that the words of a line tell, or None."""
    if len(words) != 2:
        return None
    name, value = words
    if name in ("order", "strike"):
        return (name, value)
    if name == "hush" and len(value) == 1 and value in FIGURES:
        return (name, int(value))
    return None
