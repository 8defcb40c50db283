"""Routes inside a copy: which values are routes, and how long they are.

A route is checked from its first part to its last; what is found of a part serves the calls of later parts.
"""

from slotmaps.atlases import checked_atlas, is_point
from slotmaps.checks import is_index, is_tuple
from slotmaps.errors import BadRoute

MOST_PARTS = 3000
MOST_ITEMS = 200
MOST_STEPS = (10**60) ** 5


def measure(atlas, route):
    """Return (cost, steps, depth) of the path of a route."""
    steps, cost, levels = checked_route(checked_atlas(atlas), route)[-1]
    return (cost, steps, max(levels - 1, 0))


def checked_route(maps, value):
    """Return (steps, cost, levels) for each part of a route; raise BadRoute for another value.

    The levels are those of the copies that the path of the part uses, from the copy of the part itself down: one
    more than its depth, and 0 for a path without steps.
    """
    if not isinstance(value, list) or not 1 <= len(value) <= MOST_PARTS:
        raise BadRoute(0)
    found = []
    for position, part in enumerate(value):
        if not has_part_form(maps, part):
            raise BadRoute(position)
        told = read_part(maps, value, found, part)
        if told is None:
            raise BadRoute(position)
        found.append(told)
    if found[-1][0] > MOST_STEPS:
        raise BadRoute(len(value) - 1)
    return found


def has_part_form(maps, value):
    """Return whether the value is like a part of a route, as far as this can be told without its items."""
    if not is_tuple(value, 4, 4):
        return False
    name, start, end, items = value
    return (
        isinstance(name, str)
        and name in maps
        and is_point(maps, maps[name], start)
        and is_point(maps, maps[name], end)
        and is_tuple(items, 0, MOST_ITEMS)
    )


def read_part(maps, route, found, part):
    """Return (steps, cost, levels) of a part behind those that were found, or None if its items are wrong."""
    name, here, end, items = part
    chart = maps[name]
    steps = 0
    cost = 0
    levels = 0
    for item in items:
        size = len(item) if isinstance(item, tuple) else 0
        if size == 2 and is_edge_item(chart, item, here):
            _, here, price = chart[4][item[1]]
            steps += 1
            cost += price
            levels = max(levels, 1)
        elif size == 3 and is_call_item(chart, route, found, item, here):
            more, price, inner = found[item[2]]
            here = ("slot", item[1], route[item[2]][2][1])
            steps += more
            cost += price
            # A call without steps uses no copy, so that it has no levels.
            if more:
                levels = max(levels, inner + 1)
        else:
            return None
    return (steps, cost, levels) if here == end else None


def is_edge_item(chart, value, here):
    """Return whether a tuple of two is an item for an edge that leaves this point."""
    word, e = value
    return word == "edge" and is_index(e, len(chart[4])) and chart[4][e][0] == here


def is_call_item(chart, route, found, value, here):
    """Return whether a tuple of three is an item for a call, from this point, of a part that was found."""
    word, s, position = value
    if word != "call" or here[0] != "slot" or not is_index(s, len(chart[3])) or here[1] != s:
        return False
    if not is_index(position, len(found)):
        return False
    name, start, end, _ = route[position]
    return name == chart[3][s] and start == ("port", here[2]) and end[0] == "port"


def item_steps(found, item):
    """Return the number of steps of an item of a part of a route."""
    return 1 if item[0] == "edge" else found[item[2]][0]


def item_at(found, items, t):
    """Return (k, u): step t of these items is step u of item k. Behind the last step, k is the number of items."""
    for k, item in enumerate(items):
        many = item_steps(found, item)
        if t < many:
            return (k, t)
        t = t - many
    return (len(items), t)
