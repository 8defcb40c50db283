"""Copies, places and steps in the expansion of a root map.

A variable that holds a map is called chart, since map is the name of a builtin.
"""

from heapq import heappop, heappush

from slotmaps.atlases import checked_maps, is_point
from slotmaps.checks import is_index, is_integer, is_tuple
from slotmaps.errors import BadAddress, BadCost, BadPlace, TooLarge

MOST_INDEXES = 200
MOST_PLACES = 1000


def map_at(atlas, root, address):
    """Return the name of the map of the copy at the address."""
    maps = checked_maps(atlas, root)
    name = passed_copy(maps, root, address)
    if name is None:
        raise BadAddress()
    return name


def is_place(atlas, root, value):
    """Return whether the value is a place whose address may be passed."""
    maps = checked_maps(atlas, root)
    return is_passed_place(maps, root, value)


def steps_from(atlas, root, place):
    """Return all steps that leave the place, as (target place, cost)."""
    maps = checked_maps(atlas, root)
    check_place(maps, root, place)
    return sorted(leaving(maps, root, place))


def within(atlas, root, place, budget):
    """Return all places that can be reached at a cost of at most the budget, as (least cost, place)."""
    maps = checked_maps(atlas, root)
    check_place(maps, root, place)
    if not is_integer(budget) or budget < 0:
        raise BadCost()
    costs = {}
    queue = [(0, place)]
    while queue:
        cost, here = heappop(queue)
        if here in costs:
            continue
        # Stopping at the first place beyond a limit keeps the search finite, however great the budget.
        if len(costs) == MOST_PLACES or len(here[0]) > MOST_INDEXES:
            raise TooLarge()
        costs[here] = cost
        for target, price in leaving(maps, root, here):
            if cost + price <= budget and target not in costs:
                heappush(queue, (cost + price, target))
    return sorted([(cost, reached) for reached, cost in costs.items()])


def copy_name(maps, root, address):
    """Return the name of the map of the copy at a tuple of any length, or None if there is no such copy."""
    name = root
    for index in address:
        slots = maps[name][3]
        if not is_index(index, len(slots)):
            return None
        name = slots[index]
    return name


def names_along(maps, root, address):
    """Return the names of the maps of the copies around and at the address of a copy, from the root down."""
    names = [root]
    for s in address:
        names.append(maps[names[-1]][3][s])
    return names


def passed_copy(maps, root, value):
    """Return the name of the map of the copy at a value that was passed, or None if it is no such address."""
    if not is_tuple(value, 0, MOST_INDEXES):
        return None
    return copy_name(maps, root, value)


def is_passed_place(maps, root, value):
    """Return whether a value that was passed is a place."""
    if not is_tuple(value, 2, 2):
        return False
    address, point = value
    name = passed_copy(maps, root, address)
    return name is not None and is_point(maps, maps[name], point) and point[0] != "slot"


def check_place(maps, root, value):
    """Raise BadPlace if a value that was passed is not a place."""
    if not is_passed_place(maps, root, value):
        raise BadPlace()


def place_of(address, point):
    """Return the place of any point of the copy at the address."""
    if point[0] == "slot":
        return (address + (point[1],), ("port", point[2]))
    return (address, point)


def leaving(maps, root, place):
    """Return the steps that leave a place, in any order."""
    address, point = place
    steps = leaving_by(maps, root, address, point)
    if point[0] == "port" and address:
        # The copy around sees this port as a point of its slot.
        steps = steps + leaving_by(maps, root, address[:-1], ("slot", address[-1], point[1]))
    return steps


def leaving_by(maps, root, address, point):
    """Return the steps that leave a point of the copy at the address by edges of this copy."""
    chart = maps[copy_name(maps, root, address)]
    return [(place_of(address, target), cost) for source, target, cost in chart[4] if source == point]
