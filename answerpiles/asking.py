"""Who is asked when: positions, and what the seats can choose at them."""

from answerpiles.errors import BadArgument, BadHands, BadRules, BadTable
from answerpiles.forms import MOST_ENTRIES, is_move, is_pile, is_seat
from answerpiles.hands import are_hands, are_kept_hands, kept_hands
from answerpiles.kinds import is_number, is_one_of
from answerpiles.rules import Rules
from answerpiles.steps import done_steps, lay_steps, text_of_move

READINGS = ("again", "once", "round")


def is_reading(value):
    """Whether any value is a reading by which seats are asked."""
    return is_one_of(value, READINGS)


def is_position(rules, value):
    """Whether any value has the form of a position, whether play can come to it or not."""
    if not isinstance(rules, Rules):
        raise BadRules(rules)
    if not isinstance(value, tuple) or len(value) != 6:
        return False
    table, pile, hands, waiting, asked, last = value
    if not rules.is_table(table) or not are_kept_hands(rules, hands):
        return False
    if not isinstance(pile, tuple) or not is_pile(rules, pile):
        return False
    if not are_seats(rules, waiting) or not are_seats(rules, asked):
        return False
    if list(asked) != sorted(asked) or any([seat in waiting for seat in asked]):
        return False
    if last is not None and not is_seat(rules, last):
        return False
    if pile:
        return last is not None
    return len(waiting) == 0 and len(asked) == 0


def are_seats(rules, value):
    """Whether any value is a tuple of unlike seats."""
    if not isinstance(value, tuple) or not all([is_seat(rules, seat) for seat in value]):
        return False
    return len(set(value)) == len(value)


def is_choice(value):
    """Whether any value has the form of what a seat can choose: a move, or to pass."""
    if isinstance(value, tuple) and len(value) == 2:
        return is_one_of(value[0], ("pass",)) and is_number(value[1], 0, 2)
    return is_move(value)


def first_position(rules, hands, table, asking):
    """The position ahead of the opening, from what the caller gave."""
    if not isinstance(rules, Rules):
        raise BadRules(rules)
    if not is_reading(asking):
        raise BadArgument(asking)
    if table is not None and not rules.is_table(table):
        raise BadTable(table)
    if not are_hands(rules, hands):
        raise BadHands(hands)
    return (rules.start if table is None else table, (), kept_hands(hands), (), (), None)


def has_ended(position):
    """Whether the pile has ended."""
    # Ahead of the opening it is empty, too, but nobody has laid anything.
    return len(position[1]) == 0 and position[5] is not None


def chooser(position):
    """The seat that chooses at a position, or None if the pile has ended."""
    _, pile, _, waiting, _, last = position
    if waiting:
        return waiting[0]
    if pile:
        return pile[-1][1]
    return 0 if last is None else None


def choices(plan, reading, position):
    """All (move, position behind it) that can be chosen at a position, in order."""
    if has_ended(position):
        return []
    _, pile, _, waiting, _, _ = position
    if pile and not waiting:
        found = choices_of_done(plan, position)
    else:
        found = choices_of_laying(plan, reading, position)
    if waiting:
        found.append((("pass", waiting[0]), behind_passing(position)))
    return sorted(found, key=text_of_move)


def choices_of_done(plan, position):
    """The choices with which the top is done."""
    table, pile, hands, _, _, last = position
    found = []
    for move, behind, high, left in done_steps(plan, table, pile, hands):
        waiting = tuple(range(plan.seat_count)) if high else ()
        if len(high) <= MOST_ENTRIES:
            found.append((move, (behind, high, left, waiting, (), last)))
    return found


def choices_of_laying(plan, reading, position):
    """The choices with which the seat that is asked, or the one that opens, lays a deed."""
    table, pile, hands, waiting, _, _ = position
    seat = chooser(position)
    # Behind the opening it is as if all were asked and the first of them had laid it.
    still = waiting_behind(plan, reading, waiting if pile else tuple(range(plan.seat_count)))
    found = []
    for move, behind, high, left in lay_steps(plan, table, pile, hands):
        if move[1] == seat and len(high) <= MOST_ENTRIES:
            found.append((move, (behind, high, left, still, (), seat)))
    return found


def waiting_behind(plan, reading, waiting):
    """Those that are still to be asked when the first one of those that were has laid."""
    seat = waiting[0]
    if reading == "again":
        return tuple([(seat + ahead) % plan.seat_count for ahead in range(1, plan.seat_count + 1)])
    if reading == "once":
        return waiting[1:] + (seat,)
    return waiting[1:]


def behind_passing(position):
    """The position behind the passing of the seat that is asked."""
    table, pile, hands, waiting, asked, last = position
    passed = tuple(sorted(asked + waiting[:1]))
    return (table, pile, hands, waiting[1:], passed, last)
