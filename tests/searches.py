"""Slow answers over all copies down to some depth, with the tables of the maps for all copies below."""

from tests.expansion import copies, places_of
from tests.oracle import port_tables, relaxed, spine, spine_ways


def copies_to(atlas, root, depth, *addresses):
    """Return a dict from addresses to maps: all copies down to this depth, and those around and at these addresses."""
    return {**copies(atlas, root, depth), **spine(atlas, root, addresses)}


def costs_in(atlas, found, place):
    """Return the least costs from a place to the places of these copies, by paths in any copies."""
    return relaxed(spine_ways(atlas, found), {place: 0})


def rank(cost, place):
    """Return what the ties of [34] are broken by."""
    return cost, len(place[0]), place[0], place[1]


def ranked_nodes(found, costs, label):
    """Return the ranks of the nodes with this label, of these copies, in ascending order."""
    ranks = []
    for address, chart in found.items():
        for place in places_of(chart, address):
            _, (word, j) = place
            if word == "node" and chart[2][j] == label and place in costs:
                ranks.append(rank(costs[place], place))
    return sorted(ranks)


def ranked_meetings(found, costs, other_costs):
    """Return the ranks of the meetings at places of these copies, in ascending order."""
    places = [place for address, chart in found.items() for place in places_of(chart, address)]
    return sorted([
        rank(costs[place] + other_costs[place], place)
        for place in places
        if place in costs and place in other_costs
    ])


def many_nodes(atlas, root, place, label, depth):
    """Return the number of nodes with the label, or of all nodes for None, that can be reached at this depth."""
    found = copies_to(atlas, root, depth, place[0])
    costs = costs_in(atlas, found, place)
    many = 0
    for address, chart in found.items():
        if len(address) == depth:
            for j, word in enumerate(chart[2]):
                many += (address, ("node", j)) in costs and label in (None, word)
    return many


def cost_avoiding(atlas, root, first, second, closed):
    """Return the least cost without the copies at these addresses and inside them."""
    found = spine(atlas, root, [first[0], second[0]] + closed)
    tables = port_tables(atlas)
    shut = {}
    for address in found:
        shut[address] = any([address[: len(other)] == other for other in closed])
    ways = []
    for address, chart in found.items():
        if shut[address]:
            continue
        ways.extend([(at(address, source), at(address, target), cost) for source, target, cost in chart[4]])
        for s, name in enumerate(chart[3]):
            if address + (s,) in found:
                continue
            for i, row in enumerate(tables[name]):
                for j, cost in enumerate(row):
                    if cost is not None:
                        ways.append(((address + (s,), ("port", i)), (address + (s,), ("port", j)), cost))
    return relaxed(ways, {first: 0}).get(second)


def at(address, point):
    """Return the place of a point of a copy."""
    if point[0] == "slot":
        return address + (point[1],), ("port", point[2])
    return address, point
