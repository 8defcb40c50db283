"""The place where two travellers meet at the least total cost."""

from heapq import heapify, heappop, heappush

from slotmaps.insides import Insides
from slotmaps.places import checked_places
from slotmaps.ranks import as_answer, least_moved_down, lesser, moved_out
from slotmaps.spines import spine, spine_costs


def meeting(atlas, root, first, second):
    """Return (cost, place) of the place that both travellers reach at the least total cost, or None."""
    maps = checked_places(atlas, root, first, second)
    insides = Insides(maps)
    copies = spine(maps, root, first, second)
    first_costs = spine_costs(insides, copies, first)
    second_costs = spine_costs(insides, copies, second)
    inner = meetings_inside(insides)
    options = []
    # With the same shapes and slots the same meeting is the best one.
    known = {}
    for number, name in enumerate(copies.names):
        cost, shape = first_costs[number]
        other_cost, other_shape = second_costs[number]
        key = (shape, other_shape, tuple(copies.inner[number]))
        if key not in known:
            # The copies of the spine have costs of their own.
            slots = [s for s in range(len(maps[name][3])) if s not in copies.inner[number]]
            known[key] = best_meeting(maps, inner, maps[name], slots, shape.costs, other_shape.costs)
        if known[key] is not None:
            options.append((known[key], cost + other_cost, copies.addresses[number]))
    return as_answer(least_moved_down(options))


def meetings_inside(insides):
    """Return the best meetings of two travellers who come into a copy by ports of it and do not leave it.

    This is a dict with keys (name, i, j), where i is at most j. The meetings are found in ascending order: one in
    the copy in a slot is found for the copy around only after it was found there, where it costs less.
    """
    waiting = {}
    queue = []
    for name, i, j in port_pairs(insides.maps):
        row = insides.row(name, ("port", i))
        other_row = insides.row(name, ("port", j))
        queue.extend([(found, name, i, j) for found in meetings_in(row, other_row)])
        chart = insides.maps[name]
        for cost, s, inner in ways_in(insides.maps, chart, list(range(len(chart[3]))), row, other_row):
            waiting.setdefault(inner, []).append((cost, s, name, i, j))
    heapify(queue)
    settled = {}
    while queue:
        found, name, i, j = heappop(queue)
        if (name, i, j) in settled:
            continue
        settled[(name, i, j)] = found
        for cost, s, outer, outer_i, outer_j in waiting.get((name, i, j), []):
            heappush(queue, (moved_out(found, cost, s), outer, outer_i, outer_j))
    return settled


def best_meeting(maps, inner, chart, slots, row, other_row):
    """Return the best meeting in a copy itself and in some of its slots, or None, by two rows of least costs."""
    best = None
    for found in meetings_in(row, other_row):
        best = lesser(best, found)
    for cost, s, key in ways_in(maps, chart, slots, row, other_row):
        if key in inner and (best is None or cost <= best[0]):
            best = lesser(best, moved_out(inner[key], cost, s))
    return best


def port_pairs(maps):
    """Return (name, i, j) for all ports i and j of each map, with i at most j."""
    return [(name, i, j) for name, chart in maps.items() for i in range(chart[1]) for j in range(i, chart[1])]


def meetings_in(row, other_row):
    """Return the meetings in a copy itself, by two rows of least costs; points of slots are left to their copies."""
    return [
        (cost + other_row[point], 0, (), point)
        for point, cost in row.items()
        if point[0] != "slot" and point in other_row
    ]


def ways_in(maps, chart, slots, row, other_row):
    """Return (total cost, slot, key of the meetings inside) for the ways of two travellers into some slots."""
    ways = []
    for s in slots:
        name = chart[3][s]
        points = [("slot", s, i) for i in range(maps[name][1])]
        others = [(point[2], other_row[point]) for point in points if point in other_row]
        for point in points:
            if point in row:
                i, cost = point[2], row[point]
                ways.extend([(cost + price, s, (name, min(i, j), max(i, j))) for j, price in others])
    return ways
