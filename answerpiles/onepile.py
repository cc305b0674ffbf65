"""Plays of one pile: nothing in them follows behind the end of the pile."""

from answerpiles.forms import MOST_ENTRIES
from answerpiles.steps import step_of


def states_of_pile(rules, table, moves):
    """The (table, pile) ahead of each move and behind the last one.

    None if any value is no play of one pile from a table on, or a pile would be too high.
    """
    if not isinstance(moves, list) or not moves:
        return None
    states = [(table, ())]
    for move in moves:
        last, pile = states[-1]
        if not pile and len(states) > 1:
            return None
        step = step_of(rules.plan, last, pile, None, move)
        if step is None or len(step[2]) > MOST_ENTRIES:
            return None
        states.append((step[1], step[2]))
    return states


def table_behind(rules, table, moves):
    """The table behind any value that is a whole play of one pile from a table on, or None."""
    states = states_of_pile(rules, table, moves)
    if states is None or states[-1][1]:
        return None
    return states[-1][0]
