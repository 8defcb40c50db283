"""The spine of two places, which are the copies around them, and the least costs of the points of its copies.

A path to a place inside another copy comes by a port of one of those beside the spine, and stays inside from there.
"""

from slotmaps.crossings import start_costs
from slotmaps.places import names_along


def spine(maps, root, first, second):
    """Return a dict from the address of each copy around the two places to its map, each copy before those in it."""
    copies = {}
    for address, _ in (first, second):
        for level, name in enumerate(names_along(maps, root, address)):
            copies[address[:level]] = maps[name]
    return copies


def spine_costs(insides, root, copies, first):
    """Return a dict from the address of each copy to the least costs of its points, from the first place."""
    starts = start_costs(insides, names_along(insides.maps, root, first[0]), first)
    costs = {}
    for address, chart in copies.items():
        level = len(address)
        known = {}
        if address == first[0][:level]:
            known = {point: cost for point, (cost, _) in starts[level].items()}
        if address:
            # A path that comes from outside the copy has come in by one of its ports.
            around = costs[address[:-1]]
            for i in range(chart[1]):
                cost = around.get(("slot", address[-1], i))
                if cost is not None:
                    known[("port", i)] = min(cost, known.get(("port", i), cost))
        costs[address] = spread_costs(insides, chart[0], known)
    return costs


def spread_costs(insides, name, known):
    """Return the least costs of the points of a copy, by paths inside it, from points with these costs."""
    costs = {}
    for start, before in known.items():
        for point, cost in insides.row(name, start).items():
            if point not in costs or before + cost < costs[point]:
                costs[point] = before + cost
    return costs
