"""What one move makes of a table, a pile and hands.

A step is a tuple (move, table, pile, hands): a move and what is there
behind it. Piles are tuples of any height, hands as they are kept.
"""

from answerpiles.forms import is_move
from answerpiles.hands import has_card, without_card


def lay_steps(plan, table, pile, hands):
    """All steps with which a seat lays a deed."""
    found = []
    top = pile[-1] if pile else None
    for move, laid, behind in plan.lay_ways(table, top):
        seat = move[1]
        word = move[2]
        if hands is None or not plan.cards[word]:
            found.append((move, behind, pile + laid, hands))
        elif has_card(hands, seat, word):
            found.append((move, behind, pile + laid, without_card(hands, seat, word)))
    return found


def done_steps(plan, table, pile, hands):
    """All steps with which the top is done."""
    if not pile:
        return []
    found = []
    for move, laid, behind in plan.done_ways(table, pile[-1]):
        found.append((move, behind, pile[:-1] + laid, hands))
    end = plan.acting_end(table, pile[-1])
    if end is not None:
        for move, below, laid, behind in plan.behind_act(end, pile[-2]):
            kept = () if below is None else (below,)
            found.append((move, behind, pile[:-2] + kept + laid, hands))
    return found


def all_steps(plan, table, pile, hands):
    """All steps that can be made."""
    return lay_steps(plan, table, pile, hands) + done_steps(plan, table, pile, hands)


def step_of(plan, table, pile, hands, move):
    """The step with any value that is a move, or None if it is none that can be made."""
    if not is_move(move):
        return None
    for step in all_steps(plan, table, pile, hands):
        if step[0] == move:
            return step
    return None


def text_of_move(pair):
    """By this the moves at a state are in order; a pair begins with its move."""
    return str(pair[0])
