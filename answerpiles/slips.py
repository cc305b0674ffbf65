"""Entries that fail, but slip: the steps of a copy or of a call of them were done all the same."""

from answerpiles.errors import BadArgument, BadRules, NotThere
from answerpiles.kinds import is_one_of
from answerpiles.onepile import states_of_pile
from answerpiles.rules import Rules
from answerpiles.walks import full_walk
from answerpiles.watched import FAILS, KINDS, slipping_ends, spelled_slip, watching_walk
from answerpiles.ways import edges_of, reached, spelled_way


class Trace:
    """Who is who on a pile that is played, and who has slipped.

    Each entry that a seat laid has a number. For each entry of the pile there is a row: its
    number and that of the entry of which it is a kin (a copy or a call), each perhaps None.
    """

    def __init__(self, kind):
        self._kind = kind
        self._rows = []
        self._slipped = {}

    def follow(self, number, move, act, high):
        """Goes on with a move, behind which the pile is so high, and the top of which acts so.

        Tells the (number, fail) of the entry that fails with the move, or None.
        """
        if move[0] == "lay":
            self._rows.append((number, None))
            self._fill(high, number if self._kind == "call" else None)
            return None
        own, kin = self._rows.pop()
        failed = None
        if move[1] == "instead":
            failed = (own, "instead")
        elif kin is not None:
            self._slipped[kin] = True
        if act == "strike":
            failed = (self._rows.pop()[0], "struck")
        elif act == "again":
            copied = self._rows[-1][0]
            self._rows.append((None, copied if self._kind == "copy" else None))
        self._fill(high, None)
        return failed

    def has_slipped(self, number):
        """Whether the steps of a kin of an entry were done."""
        return number in self._slipped

    def _fill(self, high, kin):
        """Adds rows of calls, as high as the pile is."""
        while len(self._rows) < high:
            self._rows.append((None, kin))


def slips(rules):
    """All (word, kind, fail) such that in some play an entry of the deed slips so."""
    if not isinstance(rules, Rules):
        raise BadRules(rules)
    full, begins = full_walk(rules, False)
    places = [place for before, move, place in layings(full, begins)]
    found = []
    for kind in KINDS:
        walk = watching_walk(rules.plan, kind, places)
        for place in places:
            word = place[1][0]
            found.extend([(word, kind, fail) for fail, moves, end in slipping_ends(walk, kind, place)])
    return sorted(set(found))


def slip_play(rules, word, kind, fail):
    """A play of one pile with the fewest moves, with the last of which an entry slips so, or None."""
    check_slip(rules, word, kind, fail)
    walk, begins = full_walk(rules, False)
    rows = [row for row in layings(walk, begins) if row[1][2] == word]
    watching = watching_walk(rules.plan, kind, [place for before, move, place in rows])
    reach = reached(edges_of(walk), begins)
    best = None
    for before, move, place in rows:
        ahead = 0 if before is None else reach[before][0]
        for how, moves, end in slipping_ends(watching, kind, place):
            if how == fail and (best is None or ahead + moves < best[0]):
                best = (ahead + moves, before, move, place, end)
    if best is None:
        return None
    _, before, move, place, end = best
    ahead = [] if before is None else spelled_way(walk, reach, before, None)
    return ahead + [move] + spelled_slip(watching, kind, place, end)


def is_slip(rules, word, kind, fail, value):
    """Whether any value is a play of one pile with the last move of which an entry slips so."""
    check_slip(rules, word, kind, fail)
    states = states_of_pile(rules, rules.start, value)
    if states is None:
        return False
    trace = Trace(kind)
    failed = None
    for number, move in enumerate(value):
        act = acting_of(rules.plan, states[number][1], move)
        failed = trace.follow(number, move, act, len(states[number + 1][1]))
    if failed is None:
        return False
    number, how = failed
    return how == fail and trace.has_slipped(number) and value[number][2] == word


def check_slip(rules, word, kind, fail):
    """Raises the errors of values that are no deed of some rules, no kind, or no way to fail."""
    if not isinstance(rules, Rules):
        raise BadRules(rules)
    if word not in rules:
        raise NotThere(word)
    if not is_one_of(kind, KINDS):
        raise BadArgument(kind)
    if not is_one_of(fail, FAILS):
        raise BadArgument(fail)


def layings(walk, begins):
    """All (number of the place ahead or None, move, place of the entry) of what seats lay."""
    found = [(None, move, walk.sites[to]) for move, to in begins]
    for at, row in enumerate(walk.links):
        for move, to in row:
            if move[0] == "lay":
                table, _, laid = walk.sites[to]
                found.append((at, move, (table, laid[0], laid[1:])))
    return found


def acting_of(plan, pile, move):
    """How the top acts on the entry below it with a move: stay, if it does not."""
    if move[0] == "done" and move[1] == "steps" and plan.acts(pile[-1]):
        return plan.act_of[pile[-1][0]]
    return "stay"
