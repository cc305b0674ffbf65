"""How many plays with given hands end with just so many moves, and which ones, by their numbers."""

from answerpiles.errors import BadArgument, BadNumber, NotThere
from answerpiles.forms import is_move
from answerpiles.given import Given
from answerpiles.kinds import is_number

MOST_COUNTED = 300


def count_plays(given, moves):
    """How many plays end with just so many moves."""
    check_moves(given, moves)
    return ways_to_end(given.rows, given.over, moves)[moves][0]


def count_without(given, moves, word):
    """How many plays that end with just so many moves have no move with which a seat lays a deed."""
    check_moves(given, moves)
    if word not in given.rules:
        raise NotThere(word)
    rows = []
    for row in given.rows:
        rows.append([(move, to) for move, to in row if move[0] != "lay" or move[2] != word])
    return ways_to_end(rows, given.over, moves)[moves][0]


def play_at(given, moves, number):
    """The play with a number among those that end with just so many moves."""
    check_moves(given, moves)
    ways = ways_to_end(given.rows, given.over, moves)
    if not is_number(number, 0, ways[moves][0] - 1):
        raise BadNumber(number)
    found = []
    at = 0
    # How many plays are ahead of the one looked for, among those that begin as it does.
    ahead = number
    for left in reversed(range(moves)):
        for move, to in given.rows[at]:
            if ahead < ways[left][to]:
                found.append(move)
                at = to
                break
            ahead -= ways[left][to]
    return found


def rank_of(given, play):
    """The number of a play among those that end with as many moves."""
    if not isinstance(given, Given):
        raise BadArgument(given)
    path = path_of(given, play)
    if path is None:
        raise BadArgument(play)
    ways = ways_to_end(given.rows, given.over, len(play))
    rank = 0
    for at, move in enumerate(play):
        left = len(play) - at - 1
        for other, to in given.rows[path[at]]:
            if other == move:
                break
            rank += ways[left][to]
    return rank


def check_moves(given, moves):
    """Raises the errors of a value that is no Given, and of a wrong number of moves."""
    if not isinstance(given, Given):
        raise BadArgument(given)
    if not is_number(moves, 0, MOST_COUNTED):
        raise BadNumber(moves)


def ways_to_end(rows, over, moves):
    """For 0 to so many moves, for each state, how many plays from there end with just so many."""
    ways = [[0 for _ in rows]]
    for at in over:
        ways[0][at] = 1
    for _ in range(moves):
        last = ways[-1]
        ways.append([sum([last[to] for move, to in row]) for row in rows])
    return ways


def path_of(given, play):
    """The states to which any value leads, the first one first; None if it is no play that ends."""
    if not isinstance(play, list) or len(play) > MOST_COUNTED:
        return None
    path = [0]
    for move in play:
        behind = []
        if is_move(move):
            behind = [to for other, to in given.rows[path[-1]] if other == move]
        if not behind:
            return None
        path.append(behind[0])
    return path if path[-1] in given.over else None
