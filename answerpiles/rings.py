"""What is reached with full hands, how it ends, and what can go round for ever."""

from answerpiles.errors import BadPlace, BadRules
from answerpiles.forms import is_place
from answerpiles.outcomes import end_tables
from answerpiles.rules import Rules
from answerpiles.steps import step_of
from answerpiles.walks import both_walks, ends_of
from answerpiles.ways import edges_of, reached, shortest_ring, spelled_way


class Outlook:
    """The places that are reached by some rules, and their ends."""

    def __init__(self, rules, *, everywhere=False):
        if not isinstance(rules, Rules):
            raise BadRules(rules)
        self._rules = rules
        self._full, self._calm, self._begins = both_walks(rules, everywhere)
        self._plays = None

    def places(self):
        """All places that are reached."""
        return sorted(self._full.sites, key=str)

    def ends(self, place):
        """The ends of a place."""
        if place not in self:
            raise BadPlace(place)
        return ends_of(self._full, self._full.number_of[place])

    def calm_ends(self, place):
        """The ends of a place without a card on the way."""
        if place not in self:
            raise BadPlace(place)
        return ends_of(self._calm, self._full.number_of[place])

    def results(self):
        """The tables with which a pile that began with an opening can end."""
        return end_tables(self._full, self._begins)

    def never(self, *, calm=False):
        """The places that never end, or never calmly."""
        walk = self._calm if calm else self._full
        found = [place for at, place in enumerate(walk.sites) if not walk.fewest[at]]
        return sorted(found, key=str)

    def play_to(self, place):
        """A play with the fewest moves that comes to a place."""
        if place not in self:
            raise BadPlace(place)
        if self._plays is None:
            self._plays = reached(edges_of(self._full), self._begins)
        return spelled_way(self._full, self._plays, self._full.number_of[place], None)

    def ring(self):
        """A shortest ring, (before, around), or None."""
        return shortest_ring(self._full, self._calm, self._begins)

    def __call__(self, place):
        return self.ends(place)

    def __len__(self):
        return len(self._full.sites)

    def __contains__(self, x):
        return is_place(self._rules, x) and x in self._full.number_of


def is_ring(rules, value):
    """Whether any value is a ring of some rules, with the fewest moves or not."""
    if not isinstance(rules, Rules) or not isinstance(value, tuple) or len(value) != 2:
        return False
    before, around = value
    if not isinstance(before, list) or not isinstance(around, list):
        return False
    first = (rules.start, ())
    ahead = states_behind(rules, first, before)
    if not ahead:
        return False
    behind = states_behind(rules, ahead[-1], around)
    if not behind:
        return False
    if not all([is_calm(rules, move) for move in around]):
        return False
    return goes_round(rules, ahead[-1:] + behind, around)


def states_behind(rules, state, moves):
    """The (table, pile) behind each of some moves, or None.

    None if one of them is no move that can be made, or ends the pile.
    """
    found = []
    for move in moves:
        step = step_of(rules.plan, state[0], state[1], None, move)
        if step is None or not step[2]:
            return None
        state = (step[1], step[2])
        found.append(state)
    return found


def is_calm(rules, move):
    """Whether no card is laid with a move."""
    return move[0] == "done" or not rules[move[2]].card


def goes_round(rules, states, moves):
    """Whether some moves lead from the first to the last of some states as a ring does."""
    table, pile = states[0]
    last_table, last_pile = states[-1]
    # The more entries are left below, the fewer have to come again.
    below = len(pile) - 1
    for at, move in enumerate(moves):
        below = min(below, len(states[at + 1][1]) - 1)
        if move[0] == "done" and move[1] == "steps" and rules.plan.acts(states[at][1][-1]):
            below = min(below, len(states[at][1]) - 2)
    many = len(pile) - below
    if table != last_table or len(last_pile) < len(pile):
        return False
    return pile[-many:] == last_pile[-many:]
