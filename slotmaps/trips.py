"""Trips: routes one behind the other, each in a copy of its own, from place to place."""

from slotmaps.atlases import checked_maps
from slotmaps.between import crossing_between
from slotmaps.checks import is_tuple
from slotmaps.errors import BadRoute, BadTrip
from slotmaps.insides import Insides
from slotmaps.measures import checked_parts
from slotmaps.places import MOST_INDEXES, check_place, checked_places, names_along, place_of
from slotmaps.routes import cheapest_route

MOST_LEGS = 500


def measure_trip(atlas, root, place, trip):
    """Return (place, cost, steps) of a trip that starts at the place: where it ends, what it costs, how long it is."""
    maps = checked_maps(atlas, root)
    check_place(maps, root, place)
    if not isinstance(trip, list) or len(trip) > MOST_LEGS:
        raise BadTrip(0)
    legs = Legs(maps, root, place)
    cost = 0
    steps = 0
    for position, leg in enumerate(trip):
        told = legs.followed(leg)
        if told is None:
            raise BadTrip(position)
        cost += told[0]
        steps += told[1]
    return (legs.place, cost, steps)


class Legs:
    """The legs of a trip, which are followed one by one; the place is where the trip has come to.

    A leg starts there, so that it is in the copy of this place or in the one around it. The names are those of the
    maps of the copies around and at its address.
    """

    def __init__(self, maps, root, place):
        self.maps = maps
        self.place = place
        self.names = names_along(maps, root, place[0])
        self.charts = {}

    def followed(self, value):
        """Follow a leg and return its (cost, steps), or return None if the value is no leg from this place."""
        if not is_tuple(value, 2, 2) or not isinstance(value[0], tuple):
            return None
        address, route = value
        try:
            found = checked_parts(self.maps, self.charts, route)
        except BadRoute:
            return None
        name, start, end, _ = route[-1]
        # What is equal to an address may still have bools in it.
        if place_of(address, start) != self.place or [s for s in address if type(s) is not int]:
            return None
        target = place_of(address, end)
        if name != self.names[len(address)] or len(target[0]) > MOST_INDEXES:
            return None
        self.names = self.names[: len(address) + 1]
        if end[0] == "slot":
            self.names.append(self.maps[name][3][end[1]])
        self.place = target
        steps, cost, _, _, _ = found[-1]
        return (cost, steps)


def best_trip(atlas, root, first, second):
    """Return a trip of least cost from one place to the other, or None if there is none."""
    maps = checked_places(atlas, root, first, second)
    insides = Insides(maps)
    crossing = crossing_between(insides, root, first, second)
    found = crossing.cheapest()
    if found is None:
        return None
    _, level, start, end = found
    up = crossing.ways_up(level, start) + [(level, start, end)]
    down = crossing.ways_down(level, end)
    return (
        legs_of(insides, crossing.first_kinds, first[0], up)
        + legs_of(insides, crossing.second_kinds, second[0], down)
    )


def legs_of(insides, names, address, ways):
    """Return the legs for ways (level, start, end) inside the copies around a place; those of no steps are left out."""
    routes = {}
    legs = []
    for level, start, end in ways:
        if start == end:
            continue
        key = (names[level], start, end)
        if key not in routes:
            routes[key] = cheapest_route(insides, names[level], start, end)
        # Each leg has a list of its own, so that the caller may change one without the others.
        legs.append((address[:level], list(routes[key])))
    return legs
