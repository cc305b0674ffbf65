"""All plays with given hands."""

from answerpiles.errors import BadHands, BadNumber, BadRules, BadTable, TooMany
from answerpiles.forms import MOST_ENTRIES
from answerpiles.hands import are_hands, kept_hands, told_hands
from answerpiles.kinds import is_number
from answerpiles.rules import Rules
from answerpiles.steps import all_steps, text_of_move
from answerpiles.ways import heights

MOST_STATES = 1000
MOST_MOVES = 60


class Given:
    """The states to which plays with given hands come, and the moves between them."""

    def __init__(self, rules, hands, *, table=None):
        if not isinstance(rules, Rules):
            raise BadRules(rules)
        if table is not None and not rules.is_table(table):
            raise BadTable(table)
        if not are_hands(rules, hands):
            raise BadHands(hands)
        self._rules = rules
        first = (rules.start if table is None else table, (), kept_hands(hands))
        # Other files count and tell plays by these three, which never change.
        self.states, self.rows = all_states(rules.plan, first)
        # The first state has an empty pile, too, but nothing has ended there.
        self.over = tuple([at for at, state in enumerate(self.states) if at > 0 and not state[1]])
        self._heights = heights([[to for move, to in row] for row in self.rows])
        self._left = moves_left(self.rows, self.over)

    @property
    def rules(self):
        """The rules by which they are played."""
        return self._rules

    @property
    def is_endless(self):
        """Whether some play goes on for ever."""
        return self._heights[0] is None

    def results(self):
        """The tables with which a play can end."""
        return sorted(set([self.states[at][0] for at in self.over]))

    def left(self, table):
        """The hands with which a play can end with a table."""
        found = [told_hands(self.states[at][2]) for at in self._ended_with(table)]
        return sorted(found, key=str)

    def many(self):
        """How many plays end, or None if there are more than any number."""
        useful = [left is not None for left in self._left]
        rows = []
        for row in self.rows:
            rows.append([to for move, to in row if useful[to]])
        high = heights(rows)
        if high[0] is None:
            return None
        counts = [0 for _ in rows]
        for at in self.over:
            counts[at] = 1
        order = sorted([(height, at) for at, height in enumerate(high) if height is not None])
        for height, at in order:
            if height > 0:
                counts[at] = sum([counts[to] for to in rows[at]])
        return counts[0]

    def shortest(self, table):
        """The first one of the plays with the fewest moves that end with a table, or None."""
        left = moves_left(self.rows, self._ended_with(table))
        if left[0] is None:
            return None
        found = []
        at = 0
        while left[at] > 0:
            nearer = [row for row in self.rows[at] if left[row[1]] == left[at] - 1]
            move, at = nearer[0]
            found.append(move)
        return found

    def plays(self, most):
        """All plays that end with at most so many moves, in order."""
        if not is_number(most, 0, MOST_MOVES):
            raise BadNumber(most)
        over = {at: True for at in self.over}
        # For each move of the play so far, which one of its state's moves it is.
        taken = []
        path = [0]
        choice = 0
        while path:
            at = path[-1]
            if at in over:
                yield [self.rows[path[k]][pick][0] for k, pick in enumerate(taken)]
            choice = self._usable(at, choice, most - len(taken))
            if choice is None:
                path.pop()
                choice = taken.pop() + 1 if taken else None
            else:
                taken.append(choice)
                path.append(self.rows[at][choice][1])
                choice = 0

    def _usable(self, at, choice, most):
        """The first choice, from one on, with which a play can end with so many moves, or None."""
        row = self.rows[at]
        while choice < len(row):
            left = self._left[row[choice][1]]
            if left is not None and left < most:
                return choice
            choice += 1
        return None

    def _ended_with(self, table):
        """The states with this table at which a play has ended."""
        if not self._rules.is_table(table):
            raise BadTable(table)
        return [at for at in self.over if self.states[at][0] == table]

    def __len__(self):
        return len(self.states)


def all_states(plan, first):
    """The states to which plays come, and for each one its (move, number of the state behind).

    The first state is the first one, the moves are in order.
    """
    states = [first]
    # The first state is left out: an empty pile behind a play is another state.
    number_of = {}
    moves = []
    while len(moves) < len(states):
        state = states[len(moves)]
        row = []
        if state[1] or not moves:
            for move, table, pile, hands in all_steps(plan, state[0], state[1], state[2]):
                behind = (table, pile, hands)
                if behind not in number_of:
                    if len(states) >= MOST_STATES or len(pile) > MOST_ENTRIES:
                        raise TooMany(MOST_STATES)
                    number_of[behind] = len(states)
                    states.append(behind)
                row.append((move, number_of[behind]))
        moves.append(tuple(sorted(row, key=text_of_move)))
    return (tuple(states), tuple(moves))


def moves_left(moves, goals):
    """For each state the fewest moves from there to one of some, None if none is come to."""
    back = [[] for _ in moves]
    for at, row in enumerate(moves):
        for move, to in row:
            back[to].append(at)
    found = [None for _ in moves]
    for at in goals:
        found[at] = 0
    queue = list(goals)
    looked = 0
    while looked < len(queue):
        at = queue[looked]
        looked += 1
        for before in back[at]:
            if found[before] is None:
                found[before] = found[at] + 1
                queue.append(before)
    return found
