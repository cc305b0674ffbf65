"""Papers that each pile ends, by numbers that fall along all that needs no card."""

from answerpiles.errors import BadRules
from answerpiles.forms import is_end, is_place
from answerpiles.rules import Rules
from answerpiles.walks import behind_end, both_walks, ends_of, openings
from answerpiles.ways import edges_of, heights


def paper_of(rules, *, everywhere=False):
    """A paper with a row for each place reached, or None if there is none."""
    if not isinstance(rules, Rules):
        raise BadRules(rules)
    full, calm, _ = both_walks(rules, everywhere)
    numbers = heights([[edge[0] for edge in row] for row in edges_of(calm)])
    if None in numbers:
        return None
    found = []
    for at, place in enumerate(full.sites):
        found.append((place, numbers[at], ends_of(full, at), ends_of(calm, at)))
    return sorted(found, key=str)


def is_paper(rules, value, *, everywhere=False):
    """Whether any value is a paper that is right."""
    if not isinstance(rules, Rules):
        raise BadRules(rules)
    if not isinstance(value, list) or not all([is_paper_row(rules, row) for row in value]):
        return False
    rows = {}
    for place, number, ends, calm in value:
        rows[place] = (number, {end: True for end in ends}, {end: True for end in calm})
    if len(rows) != len(value):
        return False
    if not all([place in rows for move, place in openings(rules, everywhere)]):
        return False
    return all([is_right(rules.plan, rows, place) for place in list(rows)])


def is_paper_row(rules, value):
    """Whether any value has the form of a row of a paper."""
    if not isinstance(value, tuple) or len(value) != 4:
        return False
    place, number, ends, calm = value
    if not is_place(rules, place) or not isinstance(number, int) or isinstance(number, bool):
        return False
    if number < 0 or not isinstance(ends, list) or not isinstance(calm, list):
        return False
    return all([is_end(rules, end) for end in ends + calm])


def is_right(plan, rows, place):
    """Whether the row of a place is right with each step from the place."""
    if place[2]:
        return is_right_beneath(plan, rows, place)
    table, entry, _ = place
    row = rows[place]
    for move, laid, behind in plan.lay_ways(table, entry):
        if not takes_over(rows, row, (behind, entry, laid), not plan.cards[move[2]]):
            return False
    for _, laid, behind in plan.done_ways(table, entry):
        if laid and not takes_over(rows, row, (behind, laid[0], laid[1:]), True):
            return False
        if not laid and not has_end(row, (behind, "stay", None), True):
            return False
    acting = plan.acting_end(table, entry)
    return acting is None or has_end(row, acting, True)


def is_right_beneath(plan, rows, place):
    """As is_right, for a place with something above its entry."""
    table, entry, above = place
    row = rows[place]
    over = (table, above[0], above[1:])
    if over not in rows or rows[over][0] >= row[0]:
        return False
    _, ends, calm = rows[over]
    for end in list(ends) + [end for end in calm if end not in ends]:
        for _, other, gone in behind_end(plan, end, entry):
            if other is None and not has_end(row, gone, end in calm):
                return False
            if other is not None and not takes_over(rows, row, other, end in calm):
                return False
    return True


def has_end(row, end, calm):
    """Whether an end is among the ends of a row, and, if it is calm, its calm ones."""
    return end in row[1] and (not calm or end in row[2])


def takes_over(rows, row, place, calm):
    """Whether a place has a row whose ends a row has too, and, if calm, that falls to it."""
    if place not in rows:
        return False
    number, ends, calm_ends = rows[place]
    if not all([end in row[1] for end in ends]):
        return False
    return not calm or (number < row[0] and all([end in row[2] for end in calm_ends]))


def pays_down(rules):
    """Whether nothing is copied, and all that can be laid without a card uses marks up."""
    if not isinstance(rules, Rules):
        raise BadRules(rules)
    grown = [mark for deed in rules.deeds for mark in grown_by(deed)]
    called = [waking.call for waking in rules.wakings]
    for deed in rules.deeds:
        if deed.act == "again":
            return False
        if deed.word in called or (deed.answers and not deed.card):
            if all([mark in grown for mark in deed.pays]):
                return False
    return True


def grown_by(deed):
    """The marks of which a deed gives more, by name or as a goal."""
    found = []
    for step in deed.steps:
        if step == ("more", "goal"):
            found.extend(deed.goals)
        elif step[0] == "more":
            found.append(step[1])
    return found
