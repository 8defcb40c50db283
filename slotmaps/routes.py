"""Routes of least cost inside a copy, and the number of paths of least cost."""

from slotmaps.atlases import check_points, checked_maps
from slotmaps.errors import TooLarge
from slotmaps.insides import Insides

MOST_WAYS = (10**60) ** 5


def best_route(atlas, name, start, end):
    """Return a route of least cost from the start to the end, inside one copy of the map, or None."""
    maps = checked_maps(atlas, name)
    check_points(maps, name, start, end)
    insides = Insides(maps)
    if end not in insides.row(name, start):
        return None
    return cheapest_route(insides, name, start, end)


def count_best(atlas, name, start, end):
    """Return the number of paths of least cost from the start to the end, inside one copy of the map."""
    maps = checked_maps(atlas, name)
    check_points(maps, name, start, end)
    insides = Insides(maps)
    if end not in insides.row(name, start):
        return 0
    many = count_ways(insides, name, start)[(name, start, end)]
    if many > MOST_WAYS:
        raise TooLarge()
    return many


def cheapest_route(insides, name, start, end):
    """Return a route of least cost between points of a copy, of which the end can be reached inside the copy."""
    last = cheapest_moves(insides, name, start, end)
    called = {}
    pending = called_ways(last)
    while pending:
        way = pending.pop()
        if way not in called:
            inner, i, j = way
            called[way] = cheapest_moves(insides, inner, ("port", i), ("port", j))
            pending.extend(called_ways(called[way]))
    # A way costs more than those that it calls, so that they stand before it.
    order = sorted([(insides.tables[inner][i][j], inner, i, j) for inner, i, j in called])
    positions = {(inner, i, j): k for k, (_, inner, i, j) in enumerate(order)}
    parts = [
        (inner, ("port", i), ("port", j), items_of(called[(inner, i, j)], positions))
        for _, inner, i, j in order
    ]
    return parts + [(name, start, end, items_of(last, positions))]


def cheapest_moves(insides, name, start, end):
    """Return the moves of a path of least cost from the start to the end, inside a copy."""
    moves = []
    here = end
    while here != start:
        move, here = insides.last_moves(name, start, here)[0]
        moves.append(move)
    moves.reverse()
    return moves


def called_ways(moves):
    """Return the ways (name, i, j) that moves call."""
    return [move[2] for move in moves if move[0] == "call"]


def items_of(moves, positions):
    """Return the items for moves, with the positions of the parts for the ways that they call."""
    return tuple([move if move[0] == "edge" else ("call", move[1], positions[move[2]]) for move in moves])


def count_ways(insides, name, start):
    """Return the numbers of paths of least cost inside copies, for keys (name, start, end).

    There are keys for the points that can be reached from the ports of all maps, and from this start.
    """
    by_edge = {}
    by_call = {}
    ways = {}
    for inner, first, here in in_order_of_cost(insides, name, start):
        edges = 1 if first == here else 0
        calls = 0
        for move, source in insides.last_moves(inner, first, here):
            before = (inner, first, source)
            if move[0] == "edge":
                edges += ways[before]
            else:
                # Two calls in a row would be in the same slot, which is one path in that copy: counted as one call.
                called, i, j = move[2]
                calls += by_edge[before] * ways[(called, ("port", i), ("port", j))]
        key = (inner, first, here)
        # All numbers beyond the limit count as one, or they would grow without bounds.
        by_edge[key] = min(edges, MOST_WAYS + 1)
        by_call[key] = min(calls, MOST_WAYS + 1)
        ways[key] = min(edges + calls, MOST_WAYS + 1)
    return ways


def in_order_of_cost(insides, name, start):
    """Return (name, start, end) for each least cost from ports and from this start, in ascending order of cost.

    A start that is no port comes last: a call from it may cost no less than the way that it calls.
    """
    found = [
        (first[0] != "port", cost, inner, first, here)
        for (inner, first), row in insides.rows.items()
        for here, cost in row.items()
        if first[0] == "port" or (inner, first) == (name, start)
    ]
    return [(inner, first, here) for _, _, inner, first, here in sorted(found)]
