"""What can become of places, by full hands: their ends, with the fewest moves to each."""

from heapq import heappop, heappush

from answerpiles.errors import TooMany

MOST_PLACES = 2000
# With this move an entry is gone that neither acts nor calls anything.
GONE = ("done", "steps", (), ())


def openings_at(plan, table):
    """All (move, place) with which a play can begin with a table."""
    found = []
    for move, laid, behind in plan.lay_ways(table, None):
        found.append((move, (behind, laid[0], laid[1:])))
    return found


def openings(rules, everywhere):
    """All (move, place) with which a play can begin, from the start or from each table."""
    tables = rules.tables() if everywhere else [rules.start]
    return [pair for table in tables for pair in openings_at(rules.plan, table)]


def behind_end(plan, end, entry):
    """What an end of the place above an entry leaves of the entry.

    A list of (move, place, end): the last move to the end above, and either
    the place to which it leads, or the end with which the entry is gone.
    """
    if end[1] == "stay":
        return [(GONE, (end[0], entry, ()), None)]
    found = []
    for move, below, laid, behind in plan.behind_act(end, entry):
        if below is not None:
            found.append((move, (behind, below, laid), None))
        elif laid:
            found.append((move, (behind, laid[0], laid[1:]), None))
        else:
            found.append((move, None, (behind, "stay", None)))
    return found


class Walk:
    """Places, numbered as they are found, and their ends.

    Ends are settled by their numbers of moves, the fewest first, so that each
    one is settled once, with the fewest moves and with a reason: (end above,
    move, number of the place behind it), each of them perhaps None.
    With more than most places there are too many (None: never).
    """

    def __init__(self, plan, roots, calm, most=MOST_PLACES):
        self.plan = plan
        self.calm = calm
        self._most = most
        self.sites = []
        self.number_of = {}
        # For each place: the one that begins with what lies above its entry, or None.
        self.over = []
        # For each place with nothing above: (move, place behind it).
        self.links = []
        # For each other place: (end of the one over it, move, place behind it).
        self.turns = []
        self.fewest = []
        self.reasons = []
        self._takers = []
        self._lowers = []
        self._queue = []
        self._pushed = 0
        self._looked = 0
        self._known_behind = {}
        for place in roots:
            self.numbered(place)
        self._settle_all()

    def numbered(self, place):
        """The number of a place, a new one if it has none yet."""
        if place in self.number_of:
            return self.number_of[place]
        at = len(self.sites)
        if self._most is not None and at >= self._most:
            raise TooMany(self._most)
        self.number_of[place] = at
        self.sites.append(place)
        self.over.append(None)
        self.links.append([])
        self.turns.append([])
        self.fewest.append({})
        self.reasons.append({})
        self._takers.append([])
        self._lowers.append([])
        return at

    def _settle_all(self):
        # A place is looked at ahead of any end, or an end of few moves could come too late.
        while self._looked < len(self.sites) or self._queue:
            if self._looked < len(self.sites):
                self._looked += 1
                self._look_at(self._looked - 1)
            else:
                moves, _, at, end, reason = heappop(self._queue)
                if end not in self.fewest[at]:
                    self._settle(at, end, moves, reason)

    def _look_at(self, at):
        table, entry, above = self.sites[at]
        if above:
            over = self.numbered((table, above[0], above[1:]))
            self.over[at] = over
            self._lowers[over].append(at)
            for end in list(self.fewest[over]):
                self._go_on(at, end)
            return
        for move, laid, behind in self.plan.lay_ways(table, entry):
            if not self.calm or not self.plan.cards[move[2]]:
                self._link(at, move, (behind, entry, laid))
        for move, laid, behind in self.plan.done_ways(table, entry):
            if laid:
                self._link(at, move, (behind, laid[0], laid[1:]))
            else:
                self._push(at, (behind, "stay", None), 1, (None, None, None))
        acting = self.plan.acting_end(table, entry)
        if acting is not None:
            self._push(at, acting, 1, (None, None, None))

    def _link(self, at, move, place):
        to = self.numbered(place)
        self.links[at].append((move, to))
        self._take(at, to, 1, (None, move, to))

    def _go_on(self, at, end):
        entry = self.sites[at][1]
        moves = self.fewest[self.over[at]][end]
        key = (entry, end)
        if key not in self._known_behind:
            self._known_behind[key] = behind_end(self.plan, end, entry)
        for move, place, gone in self._known_behind[key]:
            if place is None:
                self._push(at, gone, moves, (end, None, None))
            else:
                to = self.numbered(place)
                self.turns[at].append((end, move, to))
                self._take(at, to, moves, (end, move, to))

    def _take(self, at, source, moves, reason):
        self._takers[source].append((at, moves, reason))
        known = self.fewest[source]
        for end in list(known):
            self._push(at, end, moves + known[end], reason)

    def _push(self, at, end, moves, reason):
        if end not in self.fewest[at]:
            # The running number keeps the queue from comparing ends.
            self._pushed += 1
            heappush(self._queue, (moves, self._pushed, at, end, reason))

    def _settle(self, at, end, moves, reason):
        self.fewest[at][end] = moves
        self.reasons[at][end] = reason
        for taker, more, why in list(self._takers[at]):
            self._push(taker, end, more + moves, why)
        for lower in list(self._lowers[at]):
            self._go_on(lower, end)


def full_walk(rules, everywhere):
    """The walk by all moves, and all (move, number of the place) of openings."""
    begins = openings(rules, everywhere)
    walk = Walk(rules.plan, [place for move, place in begins], False)
    return (walk, [(move, walk.number_of[place]) for move, place in begins])


def both_walks(rules, everywhere):
    """The walk by all moves, the one by calm moves, and all (move, number of the place) of openings.

    Both walks number alike.
    """
    full, begins = full_walk(rules, everywhere)
    return (full, Walk(rules.plan, full.sites, True), begins)


def ends_of(walk, at):
    """The ends of a place of a walk, by its number."""
    return sorted(walk.fewest[at], key=str)


def spelled_end(walk, at, end, last):
    """The fewest moves from a place to one of its ends, of which the last one is given."""
    found = []
    todo = [(at, end, last)]
    while todo:
        at, end, last = todo.pop()
        above, move, to = walk.reasons[at][end]
        if above is not None:
            if to is not None:
                todo.append((to, end, last))
                todo.append((walk.over[at], above, move))
            else:
                todo.append((walk.over[at], above, last))
        elif to is not None:
            found.append(move)
            todo.append((to, end, last))
        else:
            found.append(last)
    return found
