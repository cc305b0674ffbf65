"""States of a game: a table, a pile and hands, and what each move makes of them."""

from answerpiles.errors import BadEntry, BadHands, BadMove, BadRules, BadTable
from answerpiles.forms import is_pile
from answerpiles.hands import are_hands, kept_hands, told_hands
from answerpiles.kinds import is_row
from answerpiles.rules import Rules
from answerpiles.steps import all_steps, done_steps, lay_steps, step_of


class State:
    """A table, a pile and hands, by some rules."""

    def __init__(self, rules, table=None, pile=(), *, hands=None):
        if not isinstance(rules, Rules):
            raise BadRules(rules)
        if table is not None and not rules.is_table(table):
            raise BadTable(table)
        if not is_pile(rules, pile):
            raise BadEntry(pile)
        if hands is not None and not are_hands(rules, hands):
            raise BadHands(hands)
        self._rules = rules
        self.table = rules.start if table is None else table
        self._pile = tuple(pile)
        self._hands = None if hands is None else kept_hands(hands)

    @classmethod
    def with_all(cls, rules, number):
        """The state at the start in which each seat has so many of each card."""
        if not isinstance(rules, Rules):
            raise BadRules(rules)
        words = [word for word in rules.words() if rules[word].card]
        hands = [{word: number for word in words} for _ in range(rules.seats)]
        return cls(rules, hands=hands)

    @property
    def rules(self):
        """The rules by which it is played."""
        return self._rules

    @property
    def pile(self):
        """The entries, the lowest one first."""
        return list(self._pile)

    @property
    def hands(self):
        """The cards of each seat, or None for full hands."""
        return told_hands(self._hands)

    @property
    def is_over(self):
        """Whether the pile is empty."""
        return len(self._pile) == 0

    def lays(self):
        """All (move, state behind it) with which a seat lays a deed."""
        for step in lay_steps(self._rules.plan, self.table, self._pile, self._hands):
            yield (step[0], self._behind(step))

    def dones(self):
        """All (move, state behind it) with which the top is done."""
        for step in done_steps(self._rules.plan, self.table, self._pile, self._hands):
            yield (step[0], self._behind(step))

    def moves(self):
        """All moves that can be made."""
        steps = all_steps(self._rules.plan, self.table, self._pile, self._hands)
        return sorted([step[0] for step in steps], key=str)

    def after(self, move):
        """The state behind a move."""
        step = step_of(self._rules.plan, self.table, self._pile, self._hands, move)
        if step is None:
            raise BadMove(move)
        return self._behind(step)

    def played(self, moves):
        """The states behind each of some moves."""
        if not is_row(moves):
            raise BadMove(moves)
        found = []
        state = self
        for move in moves:
            state = state.after(move)
            found.append(state)
        return found

    def _behind(self, step):
        """The state behind a step; BadEntry if its pile is too high."""
        return State(self._rules, step[1], step[2], hands=told_hands(step[3]))

    def __len__(self):
        return len(self._pile)

    def __eq__(self, other):
        if not isinstance(other, State):
            return False
        if self._rules != other._rules or self.table != other.table:
            return False
        return self._pile == other._pile and self._hands == other._hands
