"""The document's words about seats that are asked one behind another, played out plainly.

As in reference.py, nothing here uses the program but the parts of rules.
"""

import reference

HIGHEST = 400


def seats_of(rules):
    return list(range(rules.seats))


def has_card(rules, hands, seat, word):
    return not rules[word].card or dict(hands[seat]).get(word, 0) > 0


def use_card(rules, hands, seat, word):
    if not rules[word].card:
        return hands
    cards = dict(hands[seat])
    cards[word] -= 1
    row = tuple(sorted((card, number) for card, number in cards.items() if number))
    return tuple(row if one == seat else hand for one, hand in enumerate(hands))


def layings(rules, position, seat):
    """The steps, and the hands behind, with which a seat can lay a deed at a position."""
    table, pile, hands = position[:3]
    found = []
    for step in reference.lays(rules, table, pile):
        word = step.move[2]
        if step.move[1] == seat and has_card(rules, hands, seat, word) and len(step.pile) <= HIGHEST:
            found.append((step, use_card(rules, hands, seat, word)))
    return found


def turn(rules, seat):
    """All seats from one on, which comes first."""
    seats = seats_of(rules)
    return seats[seats.index(seat):] + seats[:seats.index(seat)]


def asked_behind_laying(rules, asking, seat, waiting):
    """Whom the readings ask behind a laying by a seat, ahead of which these were waiting."""
    if asking == "again":
        return tuple(turn(rules, seat)[1:] + [seat])
    still = [one for one in waiting if one != seat]
    if asking == "once":
        still.append(seat)
    return tuple(still)


def chooser(rules, position):
    table, pile, hands, waiting, asked, last = position
    if pile:
        return waiting[0] if waiting else pile[-1][1]
    return None if last is not None else 0


def moves(rules, asking, position):
    """What can be chosen at a position: a dict from moves to the positions behind."""
    table, pile, hands, waiting, asked, last = position
    found = {}
    if not pile and last is not None:
        return found
    if not pile:
        for step, left in layings(rules, position, 0):
            still = asked_behind_laying(rules, asking, 0, seats_of(rules))
            found[step.move] = (step.table, step.pile, left, still, (), 0)
    elif waiting:
        seat = waiting[0]
        for step, left in layings(rules, position, seat):
            still = asked_behind_laying(rules, asking, seat, waiting)
            found[step.move] = (step.table, step.pile, left, still, (), seat)
        passed = tuple(sorted(set(asked) | {seat}))
        found[("pass", seat)] = (table, pile, hands, waiting[1:], passed, last)
    else:
        for step in reference.dones(rules, table, pile):
            if len(step.pile) <= HIGHEST:
                everybody = tuple(seats_of(rules)) if step.pile else ()
                found[step.move] = (step.table, step.pile, hands, everybody, (), last)
    return found


def first(rules, hands, table=None):
    kept = tuple(tuple(sorted((word, number) for word, number in hand.items() if number))
                 for hand in hands)
    return (rules.start if table is None else table, (), kept, (), (), None)


def all_positions(rules, hands, asking, most=10 ** 9):
    """All positions to which play comes: a dict to their moves; None if there are too many."""
    found = {}
    todo = [first(rules, hands)]
    while todo:
        position = todo.pop()
        if position in found:
            continue
        if len(found) >= most:
            return None
        found[position] = moves(rules, asking, position)
        todo += list(found[position].values())
    return found


def is_over(position):
    return position[1] == () and position[5] is not None


def has_come(rules, wish, position):
    if not is_over(position):
        return False
    if wish[0] == "last":
        return position[5] == wish[1]
    count = dict(zip(sorted(rules.marks), position[0]))[wish[1]]
    return count >= wish[2] if wish[0] == "least" else count <= wish[2]


def forced(rules, positions, wish, friends):
    """The positions from which friends force a wish: more and more of them, until none comes."""
    won = {position for position in positions if has_come(rules, wish, position)}
    while True:
        more = set()
        for position, row in positions.items():
            if position not in won and row:
                led = [behind in won for behind in row.values()]
                if any(led) if chooser(rules, position) in friends else all(led):
                    more.add(position)
        if not more:
            return won
        won |= more


def passed_over(rules, positions):
    found = set()
    for position, row in positions.items():
        table, pile, hands, waiting, asked, last = position
        if pile and not waiting and row:
            for seat in seats_of(rules):
                if seat not in asked:
                    found |= {(seat, step.move[2]) for step, _ in layings(rules, position, seat)}
    return sorted(found)


def is_way(rules, asking, start, wish, friends, rows):
    """Whether rows (position, number, move) are a paper that friends force a wish."""
    numbers = {}
    for position, number, _ in rows:
        if position in numbers:
            return False
        numbers[position] = number
    if start not in numbers:
        return False
    for position, number, move in rows:
        behind = moves(rules, asking, position)
        if is_over(position):
            right = has_come(rules, wish, position)
        elif chooser(rules, position) in friends:
            right = move in behind and numbers.get(behind[move], number) < number
        else:
            right = len(behind) > 0 and all(
                numbers.get(other, number) < number for other in behind.values())
        if not right:
            return False
    return True


def is_guard(rules, asking, start, wish, friends, rows):
    """Whether rows (position, move) are a paper that others keep friends from a wish."""
    known = [position for position, _ in rows]
    if len(set(known)) != len(known) or start not in known:
        return False
    for position, move in rows:
        behind = moves(rules, asking, position)
        if has_come(rules, wish, position):
            return False
        if chooser(rules, position) in friends:
            if not all(other in known for other in behind.values()):
                return False
        elif behind and (move not in behind or behind[move] not in known):
            return False
    return True
