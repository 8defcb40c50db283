"""Copies, places and steps in the expansion of a root map.

A variable that holds a map is called chart, since map is the name of a builtin.
"""

from heapq import heappop, heappush

from slotmaps.atlases import checked_maps, is_point
from slotmaps.checks import is_count, is_tuple
from slotmaps.copies import Copies
from slotmaps.errors import BadAddress, BadCost, BadPlace, TooLarge

MOST_INDEXES = 200
MOST_PLACES = 1000


def map_at(atlas, root, address):
    """Return the name of the map of the copy at the address."""
    maps = checked_maps(atlas, root)
    name = passed_copy(maps, root, address)
    if name is None:
        raise BadAddress()
    return name


def is_place(atlas, root, value):
    """Return whether the value is a place whose address may be passed."""
    maps = checked_maps(atlas, root)
    return is_passed_place(maps, root, value)


def steps_from(atlas, root, place):
    """Return all steps that leave the place, as (target place, cost)."""
    maps = checked_maps(atlas, root)
    check_place(maps, root, place)
    copies = Copies(maps, root)
    here = copies.along(place[0])[-1]
    steps = copies.leaving(here, place[1])
    return sorted([((copies.addresses[number], target), cost) for number, target, cost in steps])


def within(atlas, root, place, budget):
    """Return all places that can be reached at a cost of at most the budget, as (least cost, place)."""
    maps = checked_maps(atlas, root)
    check_place(maps, root, place)
    if not is_count(budget):
        raise BadCost()
    copies = Copies(maps, root)
    costs = costs_within(copies, place, budget)
    return sorted([(cost, (copies.addresses[number], point)) for (number, point), cost in costs.items()])


def costs_within(copies, place, budget):
    """Return the least costs within the budget, by (number of the copy, point), from a place."""
    costs = {}
    queue = [(0, copies.along(place[0])[-1], place[1])]
    while queue:
        cost, number, point = heappop(queue)
        if (number, point) in costs:
            continue
        # Stopping at the first place beyond a limit keeps the search finite, however great the budget.
        if len(costs) == MOST_PLACES or len(copies.addresses[number]) > MOST_INDEXES:
            raise TooLarge()
        costs[(number, point)] = cost
        for target_copy, target, price in copies.leaving(number, point):
            if cost + price <= budget and (target_copy, target) not in costs:
                heappush(queue, (cost + price, target_copy, target))
    return costs


def copy_name(maps, root, address):
    """Return the name of the map of the copy at a tuple of any length, or None if there is no such copy."""
    name = root
    for index in address:
        slots = maps[name][3]
        # Written out, not by is_index: this is asked for each index of long addresses.
        if type(index) is not int or not 0 <= index < len(slots):
            return None
        name = slots[index]
    return name


def names_along(maps, root, address):
    """Return the names of the maps of the copies around and at the address of a copy, from the root down."""
    names = [root]
    for s in address:
        names.append(maps[names[-1]][3][s])
    return names


def passed_copy(maps, root, value):
    """Return the name of the map of the copy at a value that was passed, or None if it is no such address."""
    if not is_tuple(value, 0, MOST_INDEXES):
        return None
    return copy_name(maps, root, value)


def is_passed_place(maps, root, value):
    """Return whether a value that was passed is a place."""
    if not is_tuple(value, 2, 2):
        return False
    address, point = value
    name = passed_copy(maps, root, address)
    return name is not None and is_point(maps, maps[name], point) and point[0] != "slot"


def check_place(maps, root, value):
    """Raise BadPlace if a value that was passed is not a place."""
    if not is_passed_place(maps, root, value):
        raise BadPlace()


def checked_places(atlas, root, first, second):
    """Return the maps of the atlas by name; raise BadAtlas, UnknownMap, then BadPlace for either place."""
    maps = checked_maps(atlas, root)
    check_place(maps, root, first)
    check_place(maps, root, second)
    return maps


def place_of(address, point):
    """Return the place of any point of the copy at the address."""
    if point[0] == "slot":
        return (address + (point[1],), ("port", point[2]))
    return (address, point)
