"""What walks tell of rules: the tables with which piles end, and the shortest plays to some of them.

An opening is a tuple (table, word, goal): a deed that can be laid on an
empty pile with this table, with this goal.
"""

from answerpiles.walks import GONE, Walk, both_walks, full_walk, openings_at, spelled_end
from answerpiles.ways import has_ring


def end_tables(walk, begins):
    """The tables with which a pile can end that begins with one of some (move, place)."""
    ends = [end for move, at in begins for end in walk.fewest[at]]
    return sorted(set([end[0] for end in ends]))


def results_of(rules):
    """The tables with which a pile can end, from the start."""
    walk, begins = full_walk(rules, False)
    return end_tables(walk, begins)


def always_ends(rules):
    """Whether each pile comes to its end, from the start, with all hands."""
    _, calm, _ = both_walks(rules, False)
    return not has_ring(calm)


def laying_moves(walk, begins):
    """All moves with which something is laid in some play, and perhaps others."""
    found = [move for move, at in begins]
    for row in walk.links:
        found.extend([move for move, to in row])
    for row in walk.turns:
        found.extend([move for end, move, to in row])
    return found


def words_laid(walk, begins):
    """The words of the deeds that seats lay in some play, as a dict of True."""
    return {move[2]: True for move in laying_moves(walk, begins) if move[0] == "lay"}


def calls_laid(walk, begins):
    """The numbers of the wakings whose call is laid in some play, as a dict of True."""
    found = {}
    for move in laying_moves(walk, begins):
        calls = move[4] if move[0] == "lay" else move[2] + move[3]
        for number, _ in calls:
            found[number] = True
    return found


def opened_walk(rules):
    """The walk from all tables, and all (opening, move, number of the place)."""
    found = []
    for table in rules.tables():
        for move, place in openings_at(rules.plan, table):
            found.append(((table, move[2], move[3]), move, place))
    walk = Walk(rules.plan, [place for opening, move, place in found], False)
    return (walk, [(opening, move, walk.number_of[place]) for opening, move, place in found])


def tables_by_opening(walk, rows):
    """For each opening of an opened walk, the tables with which a pile can end that begins so."""
    found = {}
    for opening, move, at in rows:
        found.setdefault(opening, []).append((move, at))
    return {opening: end_tables(walk, found[opening]) for opening in sorted(found)}


def shortest_apart(walk, rows):
    """A whole play with the fewest moves that ends with none of some tables, or None.

    The rows are (table, move, place, tables): the table with which a pile begins, its opening,
    and the tables that are not looked for. The play is told with the table: (table, moves).
    """
    best = None
    for first, move, at, tables in rows:
        for end, moves in walk.fewest[at].items():
            if end[0] not in tables and (best is None or moves < best[0]):
                best = (moves, first, move, at, end)
    if best is None:
        return None
    _, first, move, at, end = best
    return (first, [move] + spelled_end(walk, at, end, GONE))
