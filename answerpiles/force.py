"""What friends can force, and who is passed over, when seats are asked one behind another."""

from answerpiles.asking import choices, chooser, first_position, has_ended, is_choice, is_position
from answerpiles.errors import BadArgument, BadMove, BadPlace, NotThere, TooMany
from answerpiles.forms import MOST_ENTRIES, is_seat
from answerpiles.kinds import is_number, is_one_of, is_row
from answerpiles.steps import lay_steps

MOST_POSITIONS = 1500


class Game:
    """The positions to which play can come with given hands, by one reading."""

    def __init__(self, rules, hands, *, table=None, asking="again"):
        self.first = first_position(rules, hands, table, asking)
        self._rules = rules
        self._reading = asking
        self._sites, self._number_of, self._rows = all_positions(rules.plan, asking, self.first)

    def positions(self):
        """All positions to which play can come."""
        return sorted(self._sites, key=str)

    def mover(self, position):
        """The seat that chooses, or None if the pile has ended."""
        self._number(position)
        return chooser(position)

    def moves(self, position):
        """The moves that can be chosen."""
        return [move for move, to in self._rows[self._number(position)]]

    def after(self, position, move):
        """The position behind a move."""
        row = self._rows[self._number(position)]
        behind = []
        if is_choice(move):
            behind = [to for other, to in row if other == move]
        if not behind:
            raise BadMove(move)
        return self._sites[behind[0]]

    def wins(self, wish, friends):
        """Whether friends force a wish."""
        self._check(wish, friends)
        return self._forced(wish, friends)[0] is not None

    def way(self, wish, friends):
        """A paper that friends force a wish, or None."""
        self._check(wish, friends)
        numbers = self._forced(wish, friends)
        if numbers[0] is None:
            return None
        found = []
        for at, number in enumerate(numbers):
            if number is not None:
                found.append((self._sites[at], number, self._nearer_move(at, friends, numbers)))
        return sorted(found, key=str)

    def shows(self, wish, friends, paper):
        """Whether any value is a paper that friends force a wish."""
        self._check(wish, friends)
        if not isinstance(paper, list):
            return False
        if not all([is_way_row(self._rules, row) for row in paper]):
            return False
        numbers = {row[0]: row[1] for row in paper}
        if len(numbers) != len(paper) or self.first not in numbers:
            return False
        return all([self._leads_on(wish, friends, row, numbers) for row in paper])

    def guard(self, wish, friends):
        """A paper that others keep friends from a wish, or None."""
        self._check(wish, friends)
        numbers = self._forced(wish, friends)
        if numbers[0] is not None:
            return None
        found = []
        for at, number in enumerate(numbers):
            if number is None:
                found.append((self._sites[at], self._escape(at, friends, numbers)))
        return sorted(found, key=str)

    def holds_off(self, wish, friends, paper):
        """Whether any value is a paper that others keep friends from a wish."""
        self._check(wish, friends)
        if not isinstance(paper, list):
            return False
        if not all([is_guard_row(self._rules, row) for row in paper]):
            return False
        rows = {row[0]: True for row in paper}
        if len(rows) != len(paper) or self.first not in rows:
            return False
        return all([self._keeps_off(wish, friends, row, rows) for row in paper])

    def greatest(self, mark, friends):
        """The greatest count of a mark that friends can force at least, or None."""
        ends = self._rules.marks
        if not is_one_of(mark, list(ends)):
            raise NotThere(mark)
        for count in reversed(range(ends[mark] + 1)):
            if self.wins(("least", mark, count), friends):
                return count
        return None

    def passed_over(self):
        """The (seat, word) of the deeds that are passed over at some position."""
        found = []
        for at, position in enumerate(self._sites):
            table, pile, hands, waiting, asked, _ = position
            # Where nothing can be chosen the top is not done: the pile would be too high.
            if pile and not waiting and self._rows[at]:
                for move, _, high, _ in lay_steps(self._rules.plan, table, pile, hands):
                    if move[1] not in asked and len(high) <= MOST_ENTRIES:
                        found.append((move[1], move[2]))
        return sorted(set(found))

    def _number(self, position):
        """The number of any value that is a position to which play can come."""
        if position not in self:
            raise BadPlace(position)
        return self._number_of[position]

    def _check(self, wish, friends):
        """Raises the errors of values that are no wish, or no friends."""
        if not is_wish(self._rules, wish):
            raise BadArgument(wish)
        if not is_row(friends) or len(friends) == 0:
            raise BadArgument(friends)
        if not all([is_seat(self._rules, seat) for seat in friends]):
            raise BadArgument(friends)

    def _forced(self, wish, friends):
        """For each position its number in a paper; None where friends cannot force the wish."""
        back = [[] for _ in self._rows]
        for at, row in enumerate(self._rows):
            for move, to in row:
                back[to].append(at)
        # How many moves must lead on: one of a friend's, all of another seat's.
        left = []
        for site, row in zip(self._sites, self._rows):
            left.append(1 if chooser(site) in friends else len(row))
        found = [0 if has_come(self._rules, wish, site) else None for site in self._sites]
        queue = [at for at, number in enumerate(found) if number is not None]
        looked = 0
        while looked < len(queue):
            at = queue[looked]
            looked += 1
            for before in back[at]:
                left[before] -= 1
                if left[before] == 0:
                    found[before] = found[at] + 1
                    queue.append(before)
        return found

    def _nearer_move(self, at, friends, numbers):
        """A friend's move to a lesser number, or None where no friend chooses."""
        if chooser(self._sites[at]) not in friends:
            return None
        for move, to in self._rows[at]:
            if numbers[to] is not None and numbers[to] < numbers[at]:
                return move
        return None

    def _escape(self, at, friends, numbers):
        """Another seat's move to a position without a number, or None where a friend chooses."""
        if chooser(self._sites[at]) in friends:
            return None
        for move, to in self._rows[at]:
            if numbers[to] is None:
                return move
        return None

    def _leads_on(self, wish, friends, row, numbers):
        """Whether a row of a paper that friends force a wish is right."""
        position, number, chosen = row
        if has_ended(position):
            return has_come(self._rules, wish, position)
        steps = choices(self._rules.plan, self._reading, position)
        if chooser(position) in friends:
            steps = those_with(chosen, steps)
        if not steps:
            return False
        return all([numbers.get(behind, number) < number for move, behind in steps])

    def _keeps_off(self, wish, friends, row, rows):
        """Whether a row of a paper that others keep friends from a wish is right."""
        position, chosen = row
        if has_ended(position):
            return not has_come(self._rules, wish, position)
        steps = choices(self._rules.plan, self._reading, position)
        if chooser(position) not in friends and steps:
            steps = those_with(chosen, steps)
            if not steps:
                return False
        return all([behind in rows for move, behind in steps])

    def __len__(self):
        return len(self._sites)

    def __contains__(self, x):
        return is_position(self._rules, x) and x in self._number_of


def all_positions(plan, reading, first):
    """The positions to which play can come, their numbers, and for each one its (move, number behind)."""
    sites = [first]
    number_of = {first: 0}
    rows = []
    while len(rows) < len(sites):
        row = []
        position = sites[len(rows)]
        for move, behind in choices(plan, reading, position):
            if behind not in number_of:
                if len(sites) >= MOST_POSITIONS:
                    raise TooMany(MOST_POSITIONS)
                number_of[behind] = len(sites)
                sites.append(behind)
            row.append((move, number_of[behind]))
        rows.append(row)
    return (sites, number_of, rows)


def is_wish(rules, value):
    """Whether any value is a wish."""
    if not isinstance(value, tuple):
        return False
    if len(value) == 2:
        return is_one_of(value[0], ("last",)) and is_seat(rules, value[1])
    if len(value) != 3 or not is_one_of(value[0], ("least", "most")):
        return False
    ends = rules.marks
    return is_one_of(value[1], list(ends)) and is_number(value[2], 0, ends[value[1]])


def has_come(rules, wish, position):
    """Whether the pile has ended as wished."""
    if not has_ended(position):
        return False
    if wish[0] == "last":
        return position[5] == wish[1]
    count = rules.count(position[0], wish[1])
    return count >= wish[2] if wish[0] == "least" else count <= wish[2]


def is_way_row(rules, value):
    """Whether any value is a (position, number, any value)."""
    if not isinstance(value, tuple) or len(value) != 3:
        return False
    position, number, _ = value
    if not is_position(rules, position):
        return False
    return isinstance(number, int) and not isinstance(number, bool) and number >= 0


def is_guard_row(rules, value):
    """Whether any value is a (position, any value)."""
    return isinstance(value, tuple) and len(value) == 2 and is_position(rules, value[0])


def those_with(chosen, steps):
    """Those of some (move, position) whose move is a value, of whatever kind."""
    if not is_choice(chosen):
        return []
    return [step for step in steps if step[0] == chosen]
