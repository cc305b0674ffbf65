"""What was seen of a play told back: the plays with given hands that go with it.

What was seen tells one pair for each top that was done. So plays are gone
through by how many tops were done so far, and by the state: a step is a
tuple (move, tops done behind it, state behind it).
"""

from answerpiles.errors import BadArgument, BadNumber
from answerpiles.given import Given
from answerpiles.kinds import is_number, is_row

MOST_SEEN = 60
MOST_STORIES = 1000


class Told:
    """The plays with given hands that go with what was seen."""

    def __init__(self, given, seen):
        if not isinstance(given, Given):
            raise BadArgument(given)
        if not is_seen(given.rules, seen):
            raise BadArgument(seen)
        self._given = given
        self._seen = tuple(seen)
        self._ways = ways_by_tops(given, self._seen)
        self._met = met_by_tops(given, self._seen, self._ways)

    @property
    def amount(self):
        """How many plays go with what was seen."""
        return self._ways[0][0]

    def stories(self, most=1000):
        """The first plays, in order, at most so many."""
        if not is_number(most, 0, MOST_STORIES):
            raise BadNumber(most)
        told = 0
        moves = []
        # How many moves are ahead of a step, and the step; the next one to take is the last one.
        todo = [(0,) + step for step in self._useful_steps(0, 0)[::-1]]
        while todo and told < most:
            ahead, move, done, at = todo.pop()
            moves = moves[:ahead] + [move]
            if not self._given.states[at][1]:
                told += 1
                yield list(moves)
            todo.extend([(ahead + 1,) + step for step in self._useful_steps(done, at)[::-1]])

    def tops(self, at):
        """The (word, seat) of all entries that can have been the top that was done at an index."""
        found = []
        for before, _ in self._dones(at):
            top = self._given.states[before][1][-1]
            found.append((top[0], top[1]))
        return sorted(set(found))

    def tables(self, at):
        """The tables that can have stood behind the top that was done at an index."""
        return sorted(set([self._given.states[to][0] for before, to in self._dones(at)]))

    def laid(self):
        """The (seat, word) such that the seat lays the deed in some of the plays."""
        found = []
        for done, row in enumerate(self._met):
            for at in row:
                found.extend([layer_of(move) for move, _, _ in self._useful_steps(done, at)])
        return sorted(set([pair for pair in found if pair is not None]))

    def surely_laid(self):
        """The (seat, word) such that the seat lays the deed in each of the plays."""
        pairs = self.laid()
        # Sets of pairs as numbers with a bit for each: what is laid on all ways from each state.
        bit_of = {pair: 1 << at for at, pair in enumerate(pairs)}
        sure = [{} for _ in self._met]
        for done in reversed(range(len(self._met))):
            for at in self._met[done][::-1]:
                ways = []
                for move, more, to in self._useful_steps(done, at):
                    ways.append(bit_of.get(layer_of(move), 0) | sure[more][to])
                sure[done][at] = common_bits(ways)
        return [pair for pair in pairs if sure[0][0] & bit_of[pair]]

    def _useful_steps(self, done, at):
        """The steps from a state, with so many tops done, by which plays go on that go with all."""
        found = []
        for move, more, to in steps_by_tops(self._given, self._seen, done, at):
            if self._ways[more][to] > 0:
                found.append((move, more, to))
        return found

    def _dones(self, at):
        """The (state before, state behind) of all steps with which the top was done at an index."""
        if not is_number(at, 0, len(self._seen) - 1):
            raise BadNumber(at)
        found = []
        for before in self._met[at]:
            found.extend([(before, to) for _, done, to in self._useful_steps(at, before) if done > at])
        return found

    def __len__(self):
        return len(self._seen)


def is_seen(rules, value):
    """Whether any value is what can be seen of a play."""
    if not is_row(value) or len(value) > MOST_SEEN:
        return False
    return all([is_seen_pair(rules, pair) for pair in value])


def is_seen_pair(rules, value):
    """Whether any value is a tuple of the word of a top and the table behind, each perhaps None."""
    if not isinstance(value, tuple) or len(value) != 2:
        return False
    word, table = value
    return (word is None or word in rules) and (table is None or rules.is_table(table))


def steps_by_tops(given, seen, done, at):
    """The steps from a state, with so many tops done, each by itself as it was seen."""
    found = []
    for move, to in given.rows[at]:
        if move[0] == "lay":
            found.append((move, done, to))
        elif done < len(seen):
            word, table = seen[done]
            if word in (None, given.states[at][1][-1][0]) and table in (None, given.states[to][0]):
                found.append((move, done + 1, to))
    return found


def states_by_height(given):
    """The states by the heights of their piles: each laying leads to a later one."""
    return sorted(range(len(given.states)), key=lambda at: len(given.states[at][1]))


def ways_by_tops(given, seen):
    """For each number of tops done and each state, how many ways from there go with what was seen."""
    ways = [[0 for _ in given.states] for _ in range(len(seen) + 1)]
    for at in given.over:
        ways[len(seen)][at] = 1
    highest_first = states_by_height(given)[::-1]
    for done in reversed(range(len(seen) + 1)):
        for at in highest_first:
            for _, more, to in steps_by_tops(given, seen, done, at):
                ways[done][at] += ways[more][to]
    return ways


def met_by_tops(given, seen, ways):
    """For each number of tops done, the states to which plays come that go with all, by height."""
    found = [{} for _ in ways]
    if ways[0][0] > 0:
        found[0][0] = True
    lowest_first = states_by_height(given)
    for done in range(len(ways)):
        for at in lowest_first:
            if at in found[done]:
                for _, more, to in steps_by_tops(given, seen, done, at):
                    if ways[more][to] > 0:
                        found[more][to] = True
    return [[at for at in lowest_first if at in met] for met in found]


def layer_of(move):
    """The (seat, word) of a move with which a seat lays a deed, or None."""
    return (move[1], move[2]) if move[0] == "lay" else None


def common_bits(numbers):
    """The bits that all of some numbers have, 0 if there are none."""
    found = numbers[0] if numbers else 0
    for number in numbers:
        found = found & number
    return found
