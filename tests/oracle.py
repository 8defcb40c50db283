"""Slow answers to compare with, worked out in other ways than the package does: by relaxing until nothing changes."""

from collections import deque

from tests.expansion import copies, costs_from, place, places_of, steps
from tests.samples import points_of

HUGE = 10**900


def relaxed(ways, costs):
    """Return the least costs of points by ways (source, target, cost), from points with these costs."""
    leaving = {}
    for source, target, cost in ways:
        leaving.setdefault(source, []).append((target, cost))
    costs = dict(costs)
    changed = deque(costs)
    while changed:
        here = changed.popleft()
        for target, cost in leaving.get(here, []):
            if costs[here] + cost < costs.get(target, HUGE):
                costs[target] = costs[here] + cost
                changed.append(target)
    return costs


def ways_of(chart, tables):
    """Return the ways inside a copy of a map: its edges, and the entries of the tables of the maps in its slots."""
    ways = list(chart[4])
    for s, name in enumerate(chart[3]):
        for i, row in enumerate(tables[name]):
            for j, cost in enumerate(row):
                if cost is not None:
                    ways.append((("slot", s, i), ("slot", s, j), cost))
    return ways


def table(chart, tables):
    """Return the table of a map that follows from these tables."""
    rows = []
    for i in range(chart[1]):
        costs = relaxed(ways_of(chart, tables), {("port", i): 0})
        rows.append(tuple([costs.get(("port", j)) for j in range(chart[1])]))
    return tuple(rows)


def tables_by_depth(atlas):
    """Return the tables for the depths 0, 1, 2 and so on, until they do not change."""
    tables = {chart[0]: ((None,) * chart[1],) * chart[1] for chart in atlas}
    found = []
    while not found or len(found) == 1 or found[-1] != found[-2]:
        tables = {chart[0]: table(chart, tables) for chart in atlas}
        found.append(tables)
    return found


def port_tables(atlas):
    return tables_by_depth(atlas)[-1]


def inside_costs(atlas, name, start):
    """Return the least costs from a point to the points of a copy, by paths that stay inside the copy."""
    chart = [chart for chart in atlas if chart[0] == name][0]
    return relaxed(ways_of(chart, port_tables(atlas)), {start: 0})


def expanded_costs(atlas, root, start, depth, budget=HUGE):
    """Return the least costs of places from a place, by paths that use copies of at most this depth."""
    return costs_from(steps(copies(atlas, root, depth)), start, budget)


def spine(atlas, root, addresses):
    """Return a dict from each prefix of the addresses to its map."""
    maps = {chart[0]: chart for chart in atlas}
    found = {}
    for address in addresses:
        name = root
        found[()] = maps[root]
        for k, s in enumerate(address):
            name = maps[name][3][s]
            found[address[: k + 1]] = maps[name]
    return found


def spine_ways(atlas, found, tables=None, left_out=None):
    """Return the ways between spine places: edges of spine copies, and entries of tables for the copies beside them.

    The copy at the address that is left out, and those inside it, have no ways.
    """
    tables = port_tables(atlas) if tables is None else tables
    ways = []
    for address, chart in found.items():
        if address == left_out:
            continue
        ways.extend([(place(address, source), place(address, target), cost) for source, target, cost in chart[4]])
        for s, name in enumerate(chart[3]):
            inner = address + (s,)
            if inner in found or inner == left_out:
                continue
            for i, row in enumerate(tables[name]):
                for j, cost in enumerate(row):
                    if cost is not None:
                        ways.append(((inner, ("port", i)), (inner, ("port", j)), cost))
    return ways


def spine_costs(atlas, root, first, second):
    """Return the least cost, or None, of each spine place of two places, from the first one."""
    found = spine(atlas, root, [first[0], second[0]])
    costs = relaxed(spine_ways(atlas, found), {first: 0})
    return {spine_place: costs.get(spine_place) for spine_place in spine_places(atlas, found)}


def spine_places(atlas, found):
    """Return the spine places, each once."""
    ports = {chart[0]: chart[1] for chart in atlas}
    places = {}
    for address, chart in found.items():
        for spine_place in places_of(chart, address):
            places[spine_place] = True
        for s, name in enumerate(chart[3]):
            for i in range(ports[name]):
                places[(address + (s,), ("port", i))] = True
    return list(places)


def outer_table(atlas, root, address):
    """Return the table of least costs between the ports of a copy outside of it."""
    found = spine(atlas, root, [address])
    ways = spine_ways(atlas, found, left_out=address)
    rows = []
    for i in range(found[address][1]):
        costs = relaxed(ways, {(address, ("port", i)): 0})
        rows.append(tuple([costs.get((address, ("port", j))) for j in range(found[address][1])]))
    return tuple(rows)


def many_ways(atlas, name, start, end, depth):
    """Return the least cost, and the number of paths of this cost, from point to point within so many levels."""
    all_steps = steps(copies(atlas, name, depth))
    costs = costs_from(all_steps, place((), start), HUGE)
    many = {place((), start): 1}
    for _, here in sorted([(cost, reached) for reached, cost in costs.items()]):
        for target, cost in all_steps.get(here, []):
            if costs[here] + cost == costs[target]:
                many[target] = many.get(target, 0) + many[here]
    return costs.get(place((), end)), many.get(place((), end), 0)


def is_supporting(atlas, value):
    """Return whether a value is a self-supporting table set."""
    if type(value) is not dict or sorted(value, key=repr) != [chart[0] for chart in atlas]:
        return False
    for chart in atlas:
        rows = value[chart[0]]
        if type(rows) is not tuple or len(rows) != chart[1]:
            return False
        for row in rows:
            if type(row) is not tuple or len(row) != chart[1]:
                return False
            if not all(cost is None or (type(cost) is int and cost >= 0) for cost in row):
                return False
    for chart in atlas:
        for row, costs in zip(value[chart[0]], table(chart, value)):
            for entry, cost in zip(row, costs):
                if (HUGE if entry is None else entry) > (HUGE if cost is None else cost):
                    return False
    return True


def is_item(maps, route, position, item, here):
    """Return whether an item of the part at the position may stand where the current point is this one."""
    chart = maps[route[position][0]]
    if type(item) is not tuple or not item or type(item[0]) is not str:
        return False
    if not all(type(index) is int for index in item[1:]):
        return False
    if len(item) == 2 and item[0] == "edge":
        return 0 <= item[1] < len(chart[4]) and chart[4][item[1]][0] == here
    if len(item) != 3 or item[0] != "call" or here[:2] != ("slot", item[1]) or not 0 <= item[2] < position:
        return False
    called = route[item[2]]
    return called[0] == chart[3][item[1]] and called[1] == ("port", here[2]) and called[2][0] == "port"


def bad_part(atlas, route):
    """Return the position of the first part that is wrong, or None; the number of steps is left aside."""
    maps = {chart[0]: chart for chart in atlas}
    if type(route) is not list or not 1 <= len(route) <= 3000:
        return 0
    for position, part in enumerate(route):
        if type(part) is not tuple or len(part) != 4 or type(part[0]) is not str or part[0] not in maps:
            return position
        points = [repr(point) for point in points_of(atlas, maps[part[0]])]
        if repr(part[1]) not in points or repr(part[2]) not in points:
            return position
        if type(part[3]) is not tuple or len(part[3]) > 200:
            return position
        here = part[1]
        for item in part[3]:
            if not is_item(maps, route, position, item, here):
                return position
            if item[0] == "edge":
                here = maps[part[0]][4][item[1]][1]
            else:
                here = ("slot", item[1], route[item[2]][2][1])
        if here != part[2]:
            return position
    return None


def listed_steps(route):
    """Return the steps of the path of a short route, as (address, index of the edge)."""
    used = {len(route) - 1}
    for position in reversed(range(len(route))):
        if position in used:
            used.update([item[2] for item in route[position][3] if item[0] == "call"])
    found = []
    for position, (_, _, _, items) in enumerate(route):
        made = []
        if position not in used:
            items = ()
        for item in items:
            if item[0] == "edge":
                made.append(((), item[1]))
            else:
                made.extend([((item[1],) + address, e) for address, e in found[item[2]]])
        found.append(made)
    return found[-1]


def walked(atlas, route):
    """Return the places and the costs before each step of a short route, and at its end; check that it is a path."""
    maps = {chart[0]: chart for chart in atlas}
    name, start, end, _ = route[-1]
    places = [place((), start)]
    costs = [0]
    for address, e in listed_steps(route):
        chart = maps[name]
        for s in address:
            chart = maps[chart[3][s]]
        source, target, cost = chart[4][e]
        assert place(address, source) == places[-1]
        places.append(place(address, target))
        costs.append(costs[-1] + cost)
    assert places[-1] == place((), end)
    return places, costs
