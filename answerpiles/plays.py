"""Plays as texts, with a line for each move."""

from answerpiles.errors import BadMove, BadText
from answerpiles.forms import is_move
from answerpiles.kinds import is_row


def play_text(moves):
    """The text of a list or tuple of moves."""
    if not is_row(moves):
        raise BadMove(moves)
    for move in moves:
        if not is_move(move):
            raise BadMove(move)
    return "\n".join([move_text(move) for move in moves])


def move_text(move):
    """The line of a move."""
    if move[0] == "lay":
        head = f"lay {move[1]} {move[2]} {goal_text(move[3])}"
    else:
        head = f"done {move[1]}" + calls_text("struck", move[2])
    return head + calls_text("/", move[-1])


def goal_text(goal):
    """A goal, or a stroke if there is none."""
    return "-" if goal is None else goal


def calls_text(name, calls):
    """A row of calls behind its name, or nothing if there are none."""
    if not calls:
        return ""
    return f" {name} " + " ".join([f"{number}:{goal_text(goal)}" for number, goal in calls])


def read_play(text):
    """The moves of a text."""
    if not isinstance(text, str):
        raise BadText(0)
    if text == "":
        return []
    found = []
    for at, line in enumerate(text.split("\n")):
        move = read_move(line)
        if move is None:
            raise BadText(at)
        found.append(move)
    return found


def read_move(line):
    """The move of a line, or None if it is the line of none."""
    words = line.split(" ")
    move = None
    if words[0] == "lay" and len(words) >= 4:
        goal = read_goal(words[3])
        move = ("lay", read_digit(words[1]), words[2], goal, read_calls(words[4:]))
    elif words[0] == "done" and len(words) >= 2:
        rest = words[2:]
        cut = rest.index("/") if "/" in rest else len(rest)
        move = ("done", words[1], read_calls(rest[:cut]), read_calls(rest[cut:]))
    # Words that are out of place were passed over: then the line is not the one of the move.
    if not is_move(move) or move_text(move) != line:
        return None
    return move


def read_digit(word):
    """The number that one figure stands for, or None."""
    return "0123".index(word) if len(word) == 1 and word in "0123" else None


def read_goal(word):
    """A goal, or None for a stroke."""
    return None if word == "-" else word


def read_calls(words):
    """The row of calls that words tell of which the first one is its name."""
    found = []
    for word in words[1:]:
        number, _, goal = word.partition(":")
        found.append((read_digit(number), read_goal(goal)))
    return tuple(found)
