"""Rules read in an order, and the events that leave other things by the order of their calls."""

from answerpiles.errors import BadArgument, BadRules, BadTable, NotThere
from answerpiles.kinds import is_one_of
from answerpiles.onepile import table_behind
from answerpiles.outcomes import end_tables, results_of, shortest_apart
from answerpiles.rules import EVENTS, ORDERS, Rules
from answerpiles.walks import Walk, full_walk


def readings(rules):
    """For each order the tables with which a pile can end, if the rules are read in it."""
    if not isinstance(rules, Rules):
        raise BadRules(rules)
    return {order: results_of(rules.changed(order=order)) for order in sorted(ORDERS)}


def event_ends(rules, event, word, table):
    """The ends of all that an event can leave when it comes for an entry of a deed by seat 0."""
    check_event(rules, event, word, table)
    left = left_by_event(rules.plan, event, word, table)
    places = [place for place in left if place is not None]
    walk = Walk(rules.plan, places, False)
    found = {end: True for place in places for end in walk.fewest[walk.number_of[place]]}
    if None in left:
        found[(table, "stay", None)] = True
    return sorted(found, key=str)


def order_counts(rules, event, word, table):
    """Whether the ends of an event are others in the order first than in the order last."""
    check_event(rules, event, word, table)
    first = event_ends(rules.changed(order="first"), event, word, table)
    return first != event_ends(rules.changed(order="last"), event, word, table)


def where_order_counts(rules):
    """The (event, word, table) where the order counts, of what two wakings or more have."""
    if not isinstance(rules, Rules):
        raise BadRules(rules)
    pairs = [(waking.event, waking.deed) for waking in rules.wakings]
    for event, word in sorted(set([pair for pair in pairs if pairs.count(pair) > 1])):
        for table in rules.tables():
            if order_counts(rules, event, word, table):
                yield (event, word, table)


def parted_reading(rules):
    """A shortest whole play, with its order, to a table that the other order does not lead to, or None."""
    if not isinstance(rules, Rules):
        raise BadRules(rules)
    first, begins = full_walk(rules.changed(order="first"), False)
    last, more = full_walk(rules.changed(order="last"), False)
    found = []
    for order, walk, pairs, others in [
        ("first", first, begins, end_tables(last, more)),
        ("last", last, more, end_tables(first, begins)),
    ]:
        play = shortest_apart(walk, [(rules.start, move, at, others) for move, at in pairs])
        if play is not None:
            found.append((order, play[1]))
    return min(found, key=lambda pair: len(pair[1]), default=None)


def is_parted_reading(rules, value):
    """Whether any value is a whole play, with its order, to a table as parted_reading tells one."""
    if not isinstance(rules, Rules):
        raise BadRules(rules)
    if not isinstance(value, tuple) or len(value) != 2:
        return False
    order, moves = value
    if not is_one_of(order, ("first", "last")):
        return False
    table = table_behind(rules.changed(order=order), rules.start, moves)
    if table is None:
        return False
    other = "last" if order == "first" else "first"
    return table not in results_of(rules.changed(order=other))


def check_event(rules, event, word, table):
    """Raises the errors of values that are no event, deed or table of some rules."""
    if not isinstance(rules, Rules):
        raise BadRules(rules)
    if not is_one_of(event, EVENTS):
        raise BadArgument(event)
    if word not in rules:
        raise NotThere(word)
    if not rules.is_table(table):
        raise BadTable(table)


def left_by_event(plan, event, word, table):
    """The places that an event can leave; None stands for nothing that is left."""
    found = []
    for goal in plan.choices[word]:
        entry = (word, 0, goal, True)
        for _, laid, behind in plan.call_rows(event, entry, table):
            if event == "laid":
                found.append((behind, entry, laid))
            elif laid:
                found.append((behind, laid[0], laid[1:]))
            elif event != "instead":
                found.append(None)
    return found
