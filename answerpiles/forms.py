"""The forms of entries, piles, places, ends and moves."""

from answerpiles.kinds import is_number, is_one_of, is_row
from answerpiles.rules import is_mark, is_word

MOST_ENTRIES = 400


def is_seat(rules, value):
    """Whether any value is a seat of the rules."""
    return is_number(value, 0, rules.seats - 1)


def is_entry(rules, value):
    """Whether any value is an entry of the rules."""
    if not isinstance(value, tuple) or len(value) != 4:
        return False
    word, seat, goal, reaches = value
    if word not in rules or not is_seat(rules, seat) or not isinstance(reaches, bool):
        return False
    goals = rules[word].goals
    if not goals:
        return goal is None
    return is_one_of(goal, goals)


def are_entries(rules, value):
    """Whether any value is a tuple of entries of the rules."""
    return isinstance(value, tuple) and all([is_entry(rules, entry) for entry in value])


def is_pile(rules, value):
    """Whether any value is a list or tuple that is a pile of the rules."""
    if not is_row(value) or len(value) > MOST_ENTRIES:
        return False
    if not are_entries(rules, tuple(value)):
        return False
    return len(value) == 0 or not value[0][3]


def is_place(rules, value):
    """Whether any value is a place of the rules, reached or not."""
    if not isinstance(value, tuple) or len(value) != 3:
        return False
    table, entry, above = value
    return rules.is_table(table) and is_entry(rules, entry) and are_entries(rules, above)


def is_end(rules, value):
    """Whether any value has the form of an end of a place."""
    if not isinstance(value, tuple) or len(value) != 3:
        return False
    table, act, doer = value
    if not rules.is_table(table) or not isinstance(act, str):
        return False
    if act == "stay":
        return doer is None
    if not isinstance(doer, tuple) or len(doer) != 2:
        return False
    return doer[0] in rules and rules[doer[0]].act == act and is_seat(rules, doer[1])


def is_call_row(value):
    """Whether any value has the form of a row of calls of one event."""
    if not isinstance(value, tuple):
        return False
    for call in value:
        if not isinstance(call, tuple) or len(call) != 2:
            return False
        if not is_number(call[0], 0, 3) or not (call[1] is None or is_mark(call[1])):
            return False
    return len(set([call[0] for call in value])) == len(value)


def is_move(value):
    """Whether any value has the form of a move, of whatever rules."""
    if not isinstance(value, tuple) or len(value) not in (4, 5):
        return False
    if len(value) == 4:
        name, way, struck, calls = value
        if not is_one_of(name, ("done",)) or not is_one_of(way, ("steps", "instead")):
            return False
        return is_call_row(struck) and is_call_row(calls)
    name, seat, word, goal, calls = value
    if not is_one_of(name, ("lay",)) or not is_number(seat, 0, 2) or not is_word(word):
        return False
    return (goal is None or is_mark(goal)) and is_call_row(calls)
