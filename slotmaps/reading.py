"""Single steps of the path of a route, which may have too many to go through them."""

from slotmaps.atlases import checked_atlas
from slotmaps.checks import is_index
from slotmaps.errors import BadStep
from slotmaps.measures import checked_route, item_at
from slotmaps.places import place_of


def step_at(atlas, route, t):
    """Return step t of the path of a route, as (relative address, index of the edge)."""
    maps = checked_atlas(atlas)
    found = checked_route(maps, route)
    if not is_index(t, found[-1][0]):
        raise BadStep()
    address, name, e = found_step(route, found, t)
    return (address, e)


def point_at(atlas, route, t):
    """Return the place before step t of the path of a route, or at its end, with a relative address."""
    maps = checked_atlas(atlas)
    found = checked_route(maps, route)
    if not is_index(t, found[-1][0] + 1):
        raise BadStep()
    return place_before(maps, route, found, t)


def cost_at(atlas, route, t):
    """Return the cost of the first t steps of the path of a route."""
    maps = checked_atlas(atlas)
    found = checked_route(maps, route)
    if not is_index(t, found[-1][0] + 1):
        raise BadStep()
    return cost_before(maps, route, found, t)


def found_step(route, found, t):
    """Return (relative address, name of the map, index of the edge) of step t of the path of a route."""
    address = []
    position = len(route) - 1
    while True:
        name, _, _, items = route[position]
        k, t = item_at(found, items, t)
        if items[k][0] == "edge":
            return (tuple(address), name, items[k][1])
        _, s, position = items[k]
        address.append(s)


def place_before(maps, route, found, t):
    """Return the place before step t of the path of a route, or at its end, with a relative address."""
    if t == found[-1][0]:
        return place_of((), route[-1][2])
    address, name, e = found_step(route, found, t)
    return place_of(address, maps[name][4][e][0])


def cost_before(maps, route, found, t):
    """Return the cost of the first t steps of the path of a route."""
    cost = 0
    position = len(route) - 1
    while t > 0:
        name, _, _, items = route[position]
        edges = maps[name][4]
        for item in items:
            many, price = (1, edges[item[1]][2]) if item[0] == "edge" else found[item[2]][:2]
            if t < many:
                break
            t -= many
            cost += price
        # Steps are left only where the loop has come to a call of which not all steps count.
        position = item[2] if t > 0 else position
    return cost
