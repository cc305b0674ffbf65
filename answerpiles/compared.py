"""Rules compared by the tables with which piles can end, opening by opening."""

from answerpiles.errors import BadArgument, BadRules
from answerpiles.kinds import is_number
from answerpiles.onepile import table_behind
from answerpiles.outcomes import opened_walk, shortest_apart, tables_by_opening
from answerpiles.rules import Rules


def endings(rules):
    """For each opening, from all tables, the tables with which a pile can end that begins so."""
    if not isinstance(rules, Rules):
        raise BadRules(rules)
    walk, rows = opened_walk(rules)
    return tables_by_opening(walk, rows)


def within(one, other):
    """Whether each table among the endings of one for an opening is among those of other."""
    check_pair(one, other)
    return are_within(endings(one), endings(other))


def alike(one, other):
    """Whether each of two rules is within the other."""
    check_pair(one, other)
    mine = endings(one)
    more = endings(other)
    return are_within(mine, more) and are_within(more, mine)


def parting(one, other):
    """A shortest whole play that ends as the other rules cannot, as (number, table, moves), or None."""
    check_pair(one, other)
    mine, rows = opened_walk(one)
    theirs, more = opened_walk(other)
    found = []
    for number, walk, begins, others in [
        (0, mine, rows, tables_by_opening(theirs, more)),
        (1, theirs, more, tables_by_opening(mine, rows)),
    ]:
        wanted = [(opening[0], move, at, others.get(opening, [])) for opening, move, at in begins]
        play = shortest_apart(walk, wanted)
        if play is not None:
            found.append((number, play[0], play[1]))
    return min(found, key=lambda row: len(row[2]), default=None)


def is_parting(one, other, value):
    """Whether any value is such a tuple, with the fewest moves or not."""
    check_pair(one, other)
    if not isinstance(value, tuple) or len(value) != 3:
        return False
    number, table, moves = value
    if not is_number(number, 0, 1) or not one.is_table(table):
        return False
    last = table_behind(one if number == 0 else other, table, moves)
    if last is None:
        return False
    told = endings(other if number == 0 else one)
    return last not in told.get((table, moves[0][2], moves[0][3]), [])


def check_pair(one, other):
    """Raises the errors of values that are no rules with the same marks and seats."""
    if not isinstance(one, Rules):
        raise BadRules(one)
    if not isinstance(other, Rules) or one.marks != other.marks or one.seats != other.seats:
        raise BadArgument(other)


def are_within(mine, more):
    """Whether each table for an opening in one dict is among those for it in another."""
    for opening in mine:
        others = more.get(opening, [])
        if not all([table in others for table in mine[opening]]):
            return False
    return True
