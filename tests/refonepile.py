"""Plays of one pile, gone through one by one: how they end, and which entries slip in them.

A state is (table, pile, rows). For each entry of the pile there is a row: whether a seat laid it
by itself, the height of the entry of which it is a call or copy (None if there is none, or it is
gone), which of these it is, and the kinds ("call", "copy") of those of its own whose steps were done.
"""

import reference


def first_state(rules, table=None):
    return (rules.start if table is None else table, (), ())


def followed(state, step):
    """The state behind a step, and all (word, kind, fail) such that an entry slips so with it."""
    _, pile, rows = state
    rows = list(rows)
    fresh = [(False, None, None, frozenset())] * step.laid
    told = set()
    if step.move[0] == "lay":
        height = len(rows)
        fresh = [(True, None, None, frozenset())] + [(False, height, "call", frozenset())] * (step.laid - 1)
    else:
        _, parent, kind, _ = rows[-1]
        if step.move[1] == "steps" and parent is not None:
            laid_by_seat, above, what, kinds = rows[parent]
            rows[parent] = (laid_by_seat, above, what, kinds | {kind})
        gone = rows.pop()
        fails = "instead" if step.move[1] == "instead" else None
        failed = (pile[-1], gone)
        if step.act is not None and step.act[1] == "strike":
            fails = "struck"
            failed = (pile[-2], rows.pop())
        if step.act is not None and step.act[1] == "again":
            fresh[0] = (False, len(rows) - 1, "copy", frozenset())
        if fails is not None and failed[1][0]:
            told = {(failed[0][0], kind, fails) for kind in failed[1][3]}
    rows += fresh
    assert len(rows) == len(step.pile)
    return (step.table, step.pile, tuple(rows)), told


def steps_of(rules, state):
    return [followed(state, step) + (step.move,) for step in reference.steps(rules, state[0], state[1])]


def slips_within(rules, moves, most):
    """All (word, kind, fail) with the fewest moves, of plays of at most so many; None if there are too many."""
    found = {}
    states = [first_state(rules)]
    known = set(states)
    for many in range(1, moves + 1):
        behind = []
        for state in states:
            for after, told, _ in steps_of(rules, state):
                for slip in told:
                    found.setdefault(slip, many)
                if after[1] and after not in known:
                    known.add(after)
                    behind.append(after)
            if len(known) > most:
                return None
        states = behind
    return found


def slips_of_play(rules, moves):
    """All (word, kind, fail) that slip with the last move of a play of one pile; None if it is none."""
    state = first_state(rules)
    told = set()
    for number, move in enumerate(moves):
        ways = {other: (after, slips) for after, slips, other in steps_of(rules, state)}
        if move not in ways or (number > 0 and not state[1]):
            return None
        state, told = ways[move]
    return told if moves else None


def ends_within(rules, table, moves, most):
    """For each (word, goal) of an opening and each table at the end the fewest moves; None if too many."""
    found = {}
    states = {}
    for step in reference.lays(rules, table, ()):
        states.setdefault(step.move[2:4], set()).add((step.table, step.pile))
    for opening, level in states.items():
        known = set(level)
        for many in range(2, moves + 1):
            behind = set()
            for now, pile in level:
                for step in reference.steps(rules, now, pile):
                    if not step.pile:
                        found.setdefault((opening, step.table), many)
                    elif (step.table, step.pile) not in known:
                        behind.add((step.table, step.pile))
            known |= behind
            if len(known) > most:
                return None
            level = behind
    return found
