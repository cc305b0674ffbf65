"""The document's words about piles, played out move by move as plainly as can be.

Nothing here uses the program but the parts of rules that it tells: what the
program finds by tables of ends is found here by going through plays.
"""

import itertools


class Step:
    """A move, what is behind it, and what it did to the pile."""

    def __init__(self, move, table, pile, laid, touched=None, act=None):
        self.move = move
        self.table = table
        self.pile = pile
        self.laid = laid          # how many of the top entries were laid by this move
        self.touched = touched    # the index of the entry that was answered, copied or turned
        self.act = act            # (table, act, doer, index of the entry acted upon)


def names(rules):
    return sorted(rules.marks)


def there(rules, table, wanted):
    counts = dict(zip(names(rules), table))
    return all(counts[mark] >= number for mark, number in wanted.items())


def payable(rules, table, deed):
    return there(rules, table, deed.asks) and there(rules, table, deed.pays)


def pay(rules, table, deed):
    counts = dict(zip(names(rules), table))
    for mark, number in deed.pays.items():
        counts[mark] -= number
    return tuple(counts[mark] for mark in names(rules))


def do_steps(rules, table, deed, goal):
    counts = dict(zip(names(rules), table))
    for step in deed.steps:
        if len(step) == 2:
            mark = goal if step[1] == "goal" else step[1]
            counts[mark] += 1 if step[0] == "more" else -1
            counts[mark] = min(max(counts[mark], 0), rules.marks[mark])
    return tuple(counts[mark] for mark in names(rules))


def goals_of(deed):
    return deed.goals or [None]


def call_rows(rules, event, word, seat, table):
    """All (row, entries, table) of the calls of an event."""
    wakings = [(number, waking) for number, waking in enumerate(rules.wakings)
               if waking.event == event and waking.deed == word]
    if rules.order == "first":
        orders = [wakings]
    elif rules.order == "last":
        orders = [list(reversed(wakings))]
    else:
        orders = list(itertools.permutations(wakings))
    found = {}
    for order in orders:
        for row, entries, behind in _rows(rules, list(order), event, seat, table):
            assert found.get(row, (entries, behind)) == (entries, behind)
            found[row] = (entries, behind)
    return [(row, entries, behind) for row, (entries, behind) in found.items()]


def _rows(rules, wakings, event, seat, table):
    if not wakings:
        return [((), (), table)]
    number, waking = wakings[0]
    deed = rules[waking.call]
    if not payable(rules, table, deed):
        return _rows(rules, wakings[1:], event, seat, table)
    found = []
    if waking.may:
        found += _rows(rules, wakings[1:], event, seat, table)
    caller = seat if waking.by == "own" else (seat + 1) % rules.seats
    for goal in goals_of(deed):
        entry = (deed.word, caller, goal, event == "laid")
        for row, entries, behind in _rows(rules, wakings[1:], event, seat, pay(rules, table, deed)):
            found.append((((number, goal),) + row, (entry,) + entries, behind))
    return found


def lays(rules, table, pile):
    found = []
    for seat in range(rules.seats):
        for deed in rules.deeds:
            if not pile:
                allowed = deed.opens and seat == 0
            else:
                allowed = pile[-1][0] in deed.answers
                if deed.whose == "own":
                    allowed = allowed and pile[-1][1] == seat
                if deed.whose == "other":
                    allowed = allowed and pile[-1][1] != seat
            if not allowed or not payable(rules, table, deed):
                continue
            for goal in goals_of(deed):
                entry = (deed.word, seat, goal, len(pile) > 0)
                paid = pay(rules, table, deed)
                for row, entries, behind in call_rows(rules, "laid", deed.word, seat, paid):
                    found.append(Step(("lay", seat, deed.word, goal, row), behind,
                                      pile + (entry,) + entries, 1 + len(entries),
                                      touched=len(pile) - 1 if pile else None))
    return found


def dones(rules, table, pile):
    found = []
    if not pile:
        return found
    word, seat, goal, reaches = pile[-1]
    rows = call_rows(rules, "instead", word, seat, table)
    for row, entries, behind in rows:
        if row:
            found.append(Step(("done", "instead", (), row), behind, pile[:-1] + entries,
                              len(entries)))
    if not [row for row in rows if row[0] == ()]:
        return found
    deed = rules[word]
    stepped = do_steps(rules, table, deed, goal)
    rest = pile[:-1]
    act = deed.steps[-1][0] if deed.steps and len(deed.steps[-1]) == 1 else None
    told = None
    middle = [((), (), stepped)]
    touched = None
    if act and reaches:
        told = (stepped, act, (word, seat), len(rest) - 1)
        below = rest[-1]
        if act == "strike":
            rest = rest[:-1]
            middle = call_rows(rules, "struck", below[0], below[1], stepped)
        elif act == "again":
            middle = [((), ((below[0], seat, below[2], True),), stepped)]
            touched = len(rest) - 1
        else:
            others = [one for one in rules[below[0]].goals if one != below[2]]
            rest = rest[:-1] + ((below[0], below[1], (others or [below[2]])[0], below[3]),)
            touched = len(rest) - 1
    for struck, first, left in middle:
        for row, entries, behind in call_rows(rules, "done", word, seat, left):
            found.append(Step(("done", "steps", struck, row), behind, rest + first + entries,
                              len(first + entries), touched=touched, act=told))
    return found


def steps(rules, table, pile):
    return lays(rules, table, pile) + dones(rules, table, pile)


def is_calm(rules, move):
    return move[0] == "done" or not rules[move[2]].card


def places_of(step):
    """The places to which a play comes with a move, by [9], and at which height."""
    found = []
    for at, entry in enumerate(step.pile):
        above = step.pile[at + 1:]
        if len(above) > step.laid:
            continue
        was_laid = at >= len(step.pile) - step.laid
        top_again = step.laid == 0 and not above
        if was_laid or at == step.touched or top_again:
            found.append(((step.table, entry, above), at))
    return found


def tables_at_first(rules, everywhere):
    if not everywhere:
        return [rules.start]
    return [table for table in itertools.product(
        *[range(rules.marks[mark] + 1) for mark in names(rules)])]


def reached_within(rules, moves, everywhere=False, most=20000):
    """The places to which plays of at most so many moves come, with the fewest moves.

    None in place of the dict if there are too many states to go through.
    """
    found = {}
    states = {(table, ()) for table in tables_at_first(rules, everywhere)}
    known = set(states)
    for many in range(1, moves + 1):
        behind = set()
        for table, pile in states:
            for step in steps(rules, table, pile):
                for place, at in places_of(step):
                    found.setdefault(place, many)
                if step.pile and (step.table, step.pile) not in known:
                    behind.add((step.table, step.pile))
        known |= behind
        if len(known) > most:
            return None
        states = behind
    return found


def ends_within(rules, place, height, calm=False, most=3000):
    """The ends of a place, on the way to which the pile never has more than so many entries.

    Also whether nothing was left out.
    """
    table, entry, above = place
    ground = ()
    if entry[3]:
        word = rules.deeds[0].word
        goals = rules.deeds[0].goals
        ground = ((word, 0, goals[0] if goals else None, False),)
    base = len(ground)
    first = (table, ground + (entry,) + above)
    states = [first]
    known = {first}
    found = set()
    whole = True
    while states:
        table, pile = states.pop()
        for step in steps(rules, table, pile):
            if calm and not is_calm(rules, step.move):
                continue
            if step.act is not None and step.act[3] < base:
                found.add(step.act[:3])
            elif len(step.pile) <= base:
                found.add((step.table, "stay", None))
            elif len(step.pile) > base + height:
                whole = False
            elif (step.table, step.pile) not in known:
                if len(known) >= most:
                    return found, False
                known.add((step.table, step.pile))
                states.append((step.table, step.pile))
    return found, whole


def shortest_ring_within(rules, moves, most=4000):
    """The fewest moves of a ring that has at most so many, or None."""
    begins = {}
    states = {(rules.start, ())}
    known = set(states)
    for many in range(1, moves):
        behind = set()
        for table, pile in states:
            for step in steps(rules, table, pile):
                for place, at in places_of(step):
                    begins.setdefault((step.table, step.pile, place, at), many)
                if step.pile and (step.table, step.pile) not in known:
                    behind.add((step.table, step.pile))
        known |= behind
        if len(known) > most:
            raise OverflowError
        states = behind
    best = None
    for (table, pile, place, at), many in sorted(begins.items(), key=lambda pair: pair[1]):
        most_around = (moves if best is None else best - 1) - many
        around = _shortest_around(rules, table, pile, place, at, most_around)
        if around is not None:
            best = many + around
    return best


def _shortest_around(rules, table, pile, place, height, most):
    states = {(table, pile)}
    known = set(states)
    for many in range(1, most + 1):
        behind = set()
        for table, pile in states:
            for step in steps(rules, table, pile):
                if not is_calm(rules, step.move) or len(step.pile) <= height:
                    continue
                if step.act is not None and step.act[3] < height:
                    continue
                if (place in [one for one, at in places_of(step) if at >= height]):
                    return many
                if (step.table, step.pile) not in known:
                    behind.add((step.table, step.pile))
        known |= behind
        states = behind
    return None


def is_ring(rules, before, around):
    """Whether lists of moves, none of which ends the pile, are a ring, by the words of is_ring."""
    states = [(rules.start, ())]
    taken = []
    for move in before + around:
        step = [one for one in steps(rules, *states[-1]) if one.move == move][0]
        taken.append(step)
        states.append((step.table, step.pile))
    table, pile = states[len(before)]
    last_table, last_pile = states[-1]
    if not around or not all(is_calm(rules, move) for move in around):
        return False
    if table != last_table or len(last_pile) < len(pile):
        return False
    for number in range(1, len(pile) + 1):
        below = len(pile) - number
        kept = pile[-number:] == last_pile[-number:]
        for step in taken[len(before):]:
            acted_below = step.act is not None and step.act[3] < below
            if acted_below or len(step.pile) <= below or step.pile[:below] != pile[:below]:
                kept = False
        if kept:
            return True
    return False
