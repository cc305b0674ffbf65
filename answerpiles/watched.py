"""One entry that a seat has laid, watched until it fails.

What becomes of it hangs on nothing below it. So the places with it at the
bottom are walked through by a plan in which a table is a pair (table,
whether the steps of a kin of the entry were done), and an entry is a pair
(entry, role). Kin are the copies of the entry, or the calls of its laying.
"""

from answerpiles.walks import Walk, spelled_end

PLAIN = 0
KIN = 1
WATCHED = 2
KINDS = ("call", "copy")
FAILS = ("instead", "struck")


class WatchedPlan:
    """A plan by which the watched entry comes to no other end than to fail.

    The table of such an end is a tuple (fail, whether steps of a kin were done, last move).
    """

    def __init__(self, plan, kind):
        self._plan = plan
        self._copies = KIN if kind == "copy" else PLAIN

    def lay_ways(self, table, top):
        """All (move, entries laid, table behind) with which a seat lays on a top."""
        counts, slipped = table
        found = []
        for move, laid, behind in self._plan.lay_ways(counts, top[0]):
            found.append((move, in_role(laid, PLAIN), (behind, slipped)))
        return found

    def done_ways(self, table, top):
        """All (move, entries in its place, table behind) with which a top is done and does not act."""
        counts, slipped = table
        entry, role = top
        found = []
        for move, laid, behind in self._plan.done_ways(counts, entry):
            if role != WATCHED:
                now = slipped or (role == KIN and move[1] == "steps")
                found.append((move, in_role(laid, PLAIN), (behind, now)))
            elif move[1] == "instead":
                found.append((move, (), ("instead", slipped, move)))
        return found

    def acting_end(self, table, top):
        """The end with which a top acts on the entry below, or None if it cannot."""
        counts, slipped = table
        entry, role = top
        end = None if role == WATCHED else self._plan.acting_end(counts, entry)
        if end is None:
            return None
        return ((end[0], slipped or role == KIN), end[1], end[2])

    def behind_act(self, end, below):
        """All (move, the entry below as it is then or None, entries laid above, table behind)."""
        (counts, slipped), act, doer = end
        entry, role = below
        found = []
        for move, kept, laid, behind in self._plan.behind_act((counts, act, doer), entry):
            if act == "strike" and role == WATCHED:
                found.append((move, None, (), ("struck", slipped, move)))
                continue
            high = in_role(laid, PLAIN)
            if act == "again" and role == WATCHED:
                high = in_role(laid[:1], self._copies) + high[1:]
            left = None if kept is None else (kept, role)
            found.append((move, left, high, (behind, slipped)))
        return found


def in_role(entries, role):
    """Entries, each with this role."""
    return tuple([(entry, role) for entry in entries])


def watched_place(place, kind):
    """A place whose entry is watched, just as it was laid by a seat."""
    table, entry, above = place
    return ((table, False), (entry, WATCHED), in_role(above, KIN if kind == "call" else PLAIN))


def watching_walk(plan, kind, places):
    """The walk from places whose entries were just laid by a seat."""
    # How many places there are with roles counts for nothing: the rules were gone through before.
    return Walk(WatchedPlan(plan, kind), [watched_place(place, kind) for place in places], False, None)


def slipping_ends(walk, kind, place):
    """All (fail, fewest moves, end) with which the entry of a place fails and has slipped."""
    found = []
    for end, moves in walk.fewest[walk.number_of[watched_place(place, kind)]].items():
        fail, slipped, _ = end[0]
        if slipped:
            found.append((fail, moves, end))
    return found


def spelled_slip(walk, kind, place, end):
    """The moves from a place to such an end."""
    return spelled_end(walk, walk.number_of[watched_place(place, kind)], end, end[0][2])
