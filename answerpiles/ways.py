"""Ways through the places of a walk: the shortest plays, and the shortest ring.

An edge is a tuple (to, moves, end, move): the place to which it leads, with
how many moves, and what they are: those to an end of the place over it,
of which the last one is move, or, if end is None, this move alone, or none.
"""

from heapq import heappop, heappush

from answerpiles.walks import spelled_end


def edges_of(walk):
    """For each place of a walk, the list of the edges from it."""
    found = []
    for at, over in enumerate(walk.over):
        if over is None:
            found.append([(to, 1, None, move) for move, to in walk.links[at]])
        else:
            moves = walk.fewest[over]
            rest = [(to, moves[end], end, move) for end, move, to in walk.turns[at]]
            found.append([(over, 0, None, None)] + rest)
    return found


def spelled_edge(walk, at, edge):
    """The moves of an edge from a place."""
    _, moves, end, move = edge
    if end is not None:
        return spelled_end(walk, walk.over[at], end, move)
    return [] if moves == 0 else [move]


def nearest(edges, starts, kept, goal, most):
    """The fewest moves to places: a dict to (moves, place before, edge from there).

    Begins with starts, rows of (place before, edge); goes through kept places
    only, with at most so many moves (None: any), until the goal is found.
    """
    found = {}
    queue = []
    pushed = 0
    for before, edge in starts:
        pushed += 1
        heappush(queue, (edge[1], pushed, before, edge))
    while queue and goal not in found:
        moves, _, before, edge = heappop(queue)
        at = edge[0]
        if at in found or not kept[at] or (most is not None and moves > most):
            continue
        found[at] = (moves, before, edge)
        for more in edges[at]:
            if more[0] not in found:
                pushed += 1
                heappush(queue, (moves + more[1], pushed, at, more))
    return found


def reached(edges, begins):
    """The fewest moves from the first state to each place; begins: (move, place)."""
    starts = [(None, (to, 1, None, move)) for move, to in begins]
    return nearest(edges, starts, [True for _ in edges], None, None)


def spelled_way(walk, found, at, goal):
    """The moves with which nearest has come to a place, from the goal, or (None) from the first state."""
    rows = []
    while not rows or at != goal:
        before, edge = found[at][1:]
        rows.append((before, edge))
        at = before
    moves = []
    for before, edge in rows[::-1]:
        if before is None:
            moves.append(edge[3])
        else:
            moves.extend(spelled_edge(walk, before, edge))
    return moves


def heights(rows):
    """For rows of places, how long the longest way from each place is.

    None for those from which some way never ends.
    """
    back = [[] for _ in rows]
    for at, row in enumerate(rows):
        for to in row:
            back[to].append(at)
    left = [len(row) for row in rows]
    found = [None if row else 0 for row in rows]
    ready = [at for at, row in enumerate(rows) if not row]
    while ready:
        at = ready.pop()
        for before in back[at]:
            left[before] -= 1
            if left[before] == 0:
                found[before] = 1 + max([found[to] for to in rows[before]])
                ready.append(before)
    return found


def has_ring(calm):
    """Whether some way through the places of a calm walk never ends."""
    return None in heights([[edge[0] for edge in row] for row in edges_of(calm)])


def round_places(rows):
    """For each place whether ways that go round lead both to it and from it."""
    onward = [height is None for height in heights(rows)]
    back = [[] for _ in rows]
    for at, row in enumerate(rows):
        for to in row:
            if onward[to]:
                back[to].append(at)
    return [height is None for height in heights(back)]


def shortest_ring(full, calm, begins):
    """A shortest ring as (before, around), or None; both walks number alike."""
    edges = edges_of(calm)
    kept = round_places([[edge[0] for edge in row] for row in edges])
    if not any(kept):
        return None
    reach = reached(edges_of(full), begins)
    best = None
    ring = None
    for moves, at in sorted([(reach[at][0], at) for at, keep in enumerate(kept) if keep]):
        if best is not None and moves + 1 >= best:
            break
        most = None if best is None else best - moves - 1
        found = nearest(edges, [(at, edge) for edge in edges[at]], kept, at, most)
        if at in found:
            best = moves + found[at][0]
            ring = (at, found)
        # A ring through this place would be found from here with the fewest moves.
        kept[at] = False
    at, found = ring
    return (spelled_way(full, reach, at, None), spelled_way(calm, found, at, at))
