"""Trips: routes one behind the other, each in a copy of its own, from place to place."""

from slotmaps.atlases import checked_maps
from slotmaps.between import crossing_between
from slotmaps.checks import is_tuple
from slotmaps.errors import BadRoute, BadTrip
from slotmaps.insides import Insides
from slotmaps.measures import checked_route
from slotmaps.places import MOST_INDEXES, check_place, checked_places, passed_copy, place_of
from slotmaps.routes import cheapest_route

MOST_LEGS = 500


def measure_trip(atlas, root, place, trip):
    """Return (place, cost, steps) of a trip that starts at the place: where it ends, what it costs, how long it is."""
    maps = checked_maps(atlas, root)
    check_place(maps, root, place)
    if not isinstance(trip, list) or len(trip) > MOST_LEGS:
        raise BadTrip(0)
    here = place
    cost = 0
    steps = 0
    for position, leg in enumerate(trip):
        told = measure_leg(maps, root, here, leg)
        if told is None:
            raise BadTrip(position)
        here, price, many = told
        cost += price
        steps += many
    return (here, cost, steps)


def measure_leg(maps, root, place, value):
    """Return (place, cost, steps) of a leg that starts at the place, or None if the value is no such leg."""
    if not is_tuple(value, 2, 2):
        return None
    address, route = value
    name = passed_copy(maps, root, address)
    if name is None:
        return None
    try:
        found = checked_route(maps, route)
    except BadRoute:
        return None
    last_name, start, end, _ = route[-1]
    target = place_of(address, end)
    if last_name != name or place_of(address, start) != place or len(target[0]) > MOST_INDEXES:
        return None
    steps, cost, _, _, _ = found[-1]
    return (target, cost, steps)


def best_trip(atlas, root, first, second):
    """Return a trip of least cost from one place to the other, or None if there is none."""
    maps = checked_places(atlas, root, first, second)
    insides = Insides(maps)
    crossing = crossing_between(insides, root, first, second)
    found = crossing.cheapest()
    if found is None:
        return None
    _, level, start, end = found
    up = crossing.ways_up(level, start) + [(level, start, end)]
    down = crossing.ways_down(level, end)
    return (
        legs_of(insides, crossing.first_kinds, first[0], up)
        + legs_of(insides, crossing.second_kinds, second[0], down)
    )


def legs_of(insides, names, address, ways):
    """Return the legs for ways (level, start, end) inside the copies around a place; those of no steps are left out."""
    routes = {}
    legs = []
    for level, start, end in ways:
        if start == end:
            continue
        key = (names[level], start, end)
        if key not in routes:
            routes[key] = cheapest_route(insides, names[level], start, end)
        # Each leg has a list of its own, so that the caller may change one without the others.
        legs.append((address[:level], list(routes[key])))
    return legs
