"""Certificates that no path from one place to another costs less.

Floors bound what paths cost up to the places of the copies of the spine; the tables bound what paths cost inside all
other copies.
"""

from slotmaps.checks import is_count, is_tuple
from slotmaps.errors import BadCost
from slotmaps.graphs import entries
from slotmaps.insides import Insides
from slotmaps.places import checked_places
from slotmaps.spines import points_with, spine, spine_costs
from slotmaps.tables import is_at_most, supports


def certificate(atlas, root, first, second):
    """Return a certificate for two places in which the floor of the second one is their least cost."""
    maps = checked_places(atlas, root, first, second)
    insides = Insides(maps)
    copies = spine(maps, root, first, second)
    floors = {}
    known = {}
    for number, (base, shape) in enumerate(spine_costs(insides, copies, first)):
        key = (shape.kind, tuple(copies.inner[number]))
        if key not in known:
            known[key] = points_with(maps, maps[shape.kind], key[1])
        for way, points in known[key]:
            address = copies.addresses[number] + way
            for point, here in points:
                cost = shape.costs.get(here)
                floors[(address, point)] = None if cost is None else base + cost
    return (insides.tables, floors)


def bars(atlas, root, first, second, cost, value):
    """Return whether the value is a certificate for two places with a floor of the second one of at least the cost."""
    maps = checked_places(atlas, root, first, second)
    if cost is not None and not is_count(cost):
        raise BadCost()
    if not is_tuple(value, 2, 2):
        return False
    tables, floors = value
    # What takes the least time comes first.
    return (
        is_barred_by(floors, first, second, cost)
        and supports(maps, tables)
        and are_floors(maps, spine(maps, root, first, second), tables, floors)
    )


def is_barred_by(floors, first, second, cost):
    """Return whether the value is a dict with floors of 0 for the first place, of at least the cost for the second."""
    if not isinstance(floors, dict) or floors.get(first) != 0:
        return False
    floor = floors.get(second, False)
    return is_floor(floor) and is_at_most(cost, floor)


def are_floors(maps, copies, tables, floors):
    """Return whether a dict has floors for exactly the spine places, and they hold, whatever the first place."""
    layouts = layouts_of(maps, copies, tables)
    places, firsts = places_of(copies, layouts)
    if len(floors) != len(places):
        return False
    # To compare long addresses takes less time than to look them up.
    in_order = list(floors) == places
    found = list(floors.values()) if in_order else [floors.get(place, False) for place in places]
    if not all([is_floor(floor) for floor in found]):
        return False
    for number, (_, ways) in enumerate(layouts):
        here = found[firsts[number] : firsts[number + 1]]
        for inside in copies.inner[number].values():
            chart = maps[copies.names[inside]]
            first_port = firsts[inside] + len(chart[2])
            here = here + found[first_port : first_port + chart[1]]
        if not floors_hold(ways, here):
            return False
    return True


def is_floor(value):
    """Return whether the value is None or an integer from 0 on."""
    return value is None or (type(value) is int and value >= 0)


def layouts_of(maps, copies, tables):
    """Return (groups, ways) for each copy by its number: the groups of points_with, and the ways of ways_with."""
    known = {}
    found = []
    for number, name in enumerate(copies.names):
        key = (name, tuple(copies.inner[number]))
        if key not in known:
            groups = points_with(maps, maps[name], key[1])
            known[key] = (groups, ways_with(maps, maps[name], groups, key[1], tables))
        found.append(known[key])
    return found


def ways_with(maps, chart, groups, inner, tables):
    """Return (source, target, cost) for the edges of a copy and for the entries of the tables of all slots but these.

    The sources and the targets are numbers of points: of those of the groups, then of those of the inner slots.
    """
    points = [here for _, pairs in groups for _, here in pairs]
    points.extend([("slot", s, i) for s in inner for i in range(maps[chart[3][s]][1])])
    numbers = {point: number for number, point in enumerate(points)}
    ways = [(numbers[source], numbers[target], cost) for source, target, cost in chart[4]]
    for s, name in enumerate(chart[3]):
        if s not in inner:
            for i, j, cost in entries(tables[name]):
                ways.append((numbers[("slot", s, i)], numbers[("slot", s, j)], cost))
    return ways


def places_of(copies, layouts):
    """Return (places, firsts): all places of the groups, and by number the positions of the first one of each copy."""
    places = []
    firsts = [0]
    for number, (groups, _) in enumerate(layouts):
        for way, pairs in groups:
            address = copies.addresses[number] + way
            places.extend([(address, point) for point, _ in pairs])
        firsts.append(len(places))
    return (places, firsts)


def floors_hold(ways, floors):
    """Return whether the floors of the points of a copy hold by these ways."""
    for source, target, cost in ways:
        if floors[source] is not None:
            floor = floors[target]
            if floor is None or floor > floors[source] + cost:
                return False
    return True
