"""Routes inside a copy: which values are routes, and how long they are.

A route is checked from its first part to its last; what is found of a part serves the calls of later parts. Since
routes have thousands of parts, points are compared by numbers, and the checks of an item are written out instead of
called. (type(x) is int is true of integers alone, not of bools.)
"""

from slotmaps.atlases import checked_atlas, points_of
from slotmaps.errors import BadRoute

MOST_PARTS = 3000
MOST_ITEMS = 200
MOST_STEPS = (10**60) ** 5
# More than the points of a map.
MANY_NUMBERS = 100


def measure(atlas, route):
    """Return (cost, steps, depth) of the path of a route."""
    steps, cost, levels, _, _ = checked_route(checked_atlas(atlas), route)[-1]
    return (cost, steps, max(levels - 1, 0))


def checked_route(maps, value):
    """Return (steps, cost, levels, start, end) for each part of a route; raise BadRoute for another value.

    The levels are those of the copies that the path of the part uses, from the copy of the part itself down: one
    more than its depth, and 0 for a path without steps. The start is its number among the points of all maps, the
    end its number among those of the map of the part.
    """
    return checked_parts(maps, {}, value)


def checked_parts(maps, charts, value):
    """Return what checked_route returns; the numbered maps that are needed are kept in a dict, for other routes."""
    if not isinstance(value, list) or not 1 <= len(value) <= MOST_PARTS:
        raise BadRoute(0)
    found = []
    for part in value:
        if type(part) is not tuple or len(part) != 4 or type(part[0]) is not str or part[0] not in maps:
            raise BadRoute(len(found))
        if part[0] not in charts:
            charts[part[0]] = numbered(maps, part[0])
        told = read_part(charts[part[0]], found, part)
        if told is None:
            raise BadRoute(len(found))
        found.append(told)
    if found[-1][0] > MOST_STEPS:
        raise BadRoute(len(value) - 1)
    return found


def read_part(chart, found, part):
    """Return what checked_route tells of a part of a map behind those that were found, or None if it is wrong."""
    base, numbers, points, edges, doors = chart
    _, start, end, items = part
    first = here = number_of(numbers, start)
    if first is None or type(items) is not tuple or len(items) > MOST_ITEMS:
        return None
    steps, cost, levels = len(items), 0, 0
    for item in items:
        if type(item) is not tuple:
            return None
        if len(item) == 2:
            word, e = item
            if word != "edge" or type(e) is not int or not 0 <= e < len(edges):
                return None
            source, target, price = edges[e]
            if source != here:
                return None
            here = target
            cost += price
        elif len(item) == 3:
            word, s, p = item
            if word != "call" or type(s) is not int or type(p) is not int or not 0 <= p < len(found):
                return None
            many, price, inner, way_in, way_out = found[p]
            slot, needed, ways_out = doors[here]
            if s != slot or way_in != needed or way_out not in ways_out:
                return None
            here = ways_out[way_out]
            cost += price
            steps += many - 1
            levels = inner + 1 if many and inner >= levels else levels
        else:
            return None
    # What is equal to a point may still have bools in it.
    if end != points[here] or type(end[1]) is not int or type(end[-1]) is not int:
        return None
    return (steps, cost, levels or min(steps, 1), base + first, here)


def number_of(numbers, value):
    """Return the number of a point, or None for another value."""
    if type(value) is not tuple or not 2 <= len(value) <= 3 or type(value[0]) is not str:
        return None
    if type(value[1]) is not int or type(value[-1]) is not int:
        return None
    return numbers.get(value)


def numbered(maps, name):
    """Return (base, numbers, points, edges, doors) of a map.

    The numbers stand by points, the points by numbers; with the base, a number is one among the points of all maps.
    An edge is (source, target, cost). The door of a point of a slot is (slot, number of the port among the points of
    all maps, dict from the ports of the copy in the slot to their points here).
    """
    chart = maps[name]
    points = points_of(maps, chart)
    numbers = {point: number for number, point in enumerate(points)}
    edges = [(numbers[source], numbers[target], cost) for source, target, cost in chart[4]]
    doors = [door_of(maps, chart, numbers, point) for point in points]
    return (base_of(maps, name), numbers, points, edges, doors)


def door_of(maps, chart, numbers, point):
    """Return the door of a point, which fits no slot if it is the point of none."""
    if point[0] != "slot":
        return (None, None, {})
    _, s, i = point
    inner = chart[3][s]
    # In the copy, the numbers of the ports are behind those of the nodes.
    nodes = len(maps[inner][2])
    ways_out = {nodes + j: numbers[("slot", s, j)] for j in range(maps[inner][1])}
    return (s, base_of(maps, inner) + nodes + i, ways_out)


def base_of(maps, name):
    """Return the number of the first point of a map among the points of all maps."""
    return list(maps).index(name) * MANY_NUMBERS


def item_steps(found, item):
    """Return the number of steps of an item of a part of a route."""
    return 1 if item[0] == "edge" else found[item[2]][0]


def item_at(found, items, t):
    """Return (k, u): step t of these items is step u of item k. Behind the last step, k is the number of items."""
    for k, item in enumerate(items):
        many = 1 if item[0] == "edge" else found[item[2]][0]
        if t < many:
            return (k, t)
        t -= many
    return (len(items), t)
