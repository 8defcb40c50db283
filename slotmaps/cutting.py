"""Slices of routes, and routes joined one behind the other."""

from slotmaps.atlases import checked_atlas
from slotmaps.checks import is_integer
from slotmaps.errors import BadStep, NotInside, NotJoined, TooLarge
from slotmaps.measures import MOST_ITEMS, MOST_STEPS, checked_route, item_at, item_steps
from slotmaps.reading import place_before

MOST_CUT_PARTS = 900


def slice_route(atlas, route, t, u):
    """Return a route of the steps of a route from number t to before number u."""
    maps = checked_atlas(atlas)
    found = checked_route(maps, route)
    steps = found[-1][0]
    if not is_integer(t) or not is_integer(u) or not 0 <= t <= u <= steps:
        raise BadStep()
    start = point_before(maps, route, found, t)
    end = point_before(maps, route, found, u)
    if start is None or end is None:
        raise NotInside()
    if len(route) > MOST_CUT_PARTS:
        raise TooLarge()
    name, _, _, items = route[-1]
    parts = route[:-1]
    kept = []
    for item, low, high in cut_items(found, items, t, u):
        if low == 0 and high == item_steps(found, item):
            kept.append(item)
        else:
            parts.append(cut_part(maps, route, found, item[2], low, high))
            kept.append(("call", item[1], len(parts) - 1))
    return parts + [(name, start, end, tuple(kept))]


def join_routes(atlas, first, second):
    """Return a route of the steps of one route and then of another one."""
    maps = checked_atlas(atlas)
    first_steps = checked_route(maps, first)[-1][0]
    second_steps = checked_route(maps, second)[-1][0]
    name, start, middle, items = first[-1]
    other_name, other_middle, end, other_items = second[-1]
    if other_name != name or other_middle != middle:
        raise NotJoined()
    if (
        len(first) + len(second) > MOST_CUT_PARTS
        or len(items) + len(other_items) > MOST_ITEMS
        or first_steps + second_steps > MOST_STEPS
    ):
        raise TooLarge()
    called, other_called = called_parts(first), called_parts(second)
    # The fewer of the called parts come to stand behind the others, where they have to be written anew.
    if len(called) < len(other_called):
        items = moved_items(items, len(other_called))
        parts = other_called + moved_parts(called, len(other_called))
    else:
        other_items = moved_items(other_items, len(called))
        parts = called + moved_parts(other_called, len(called))
    return parts + [(name, start, end, items + other_items)]


def called_parts(route):
    """Return the parts before the last one, or none of them if the last one calls none."""
    return route[:-1] if [item for item in route[-1][3] if item[0] == "call"] else []


def moved_parts(parts, many):
    """Return the parts for a route in which they stand so many places further behind."""
    return [(name, start, end, moved_items(items, many)) for name, start, end, items in parts]


def moved_items(items, many):
    """Return the items for a route in which the called parts stand so many places further behind."""
    return tuple([item if item[0] == "edge" else ("call", item[1], item[2] + many) for item in items])


def point_before(maps, route, found, t):
    """Return the point, of the copy of the route itself, where its path is before step t, or None if it is deeper."""
    address, point = place_before(maps, route, found, t)
    if not address:
        return point
    if len(address) == 1 and point[0] == "port":
        return ("slot", address[0], point[1])
    return None


def cut_items(found, items, t, u):
    """Return (item, low, high) for the items with a step from t to before u: its own steps from low to before high."""
    cut = []
    for item in items:
        many = item_steps(found, item)
        low = max(t, 0)
        high = min(u, many)
        if low < high:
            cut.append((item, low, high))
        t = t - many
        u = u - many
    return cut


def cut_part(maps, route, found, position, low, high):
    """Return a part of the steps of another one from low to before high, which lie between its items."""
    name, _, _, items = route[position]
    first, _ = item_at(found, items, low)
    behind, _ = item_at(found, items, high)
    start = point_before_item(maps, route, position, first)
    end = point_before_item(maps, route, position, behind)
    return (name, start, end, items[first:behind])


def point_before_item(maps, route, position, k):
    """Return the current point before item k of a part, or behind its last item."""
    name, start, _, items = route[position]
    if k == 0:
        return start
    item = items[k - 1]
    if item[0] == "edge":
        return maps[name][4][item[1]][1]
    return ("slot", item[1], route[item[2]][2][1])
