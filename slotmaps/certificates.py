"""Certificates that no path from one place to another costs less.

Floors bound what paths cost up to the places of the copies of the spine; the tables bound what paths cost inside all
other copies.
"""

from slotmaps.atlases import points_of
from slotmaps.checks import is_count, is_tuple
from slotmaps.errors import BadCost
from slotmaps.graphs import entries
from slotmaps.insides import Insides
from slotmaps.places import checked_places, place_of
from slotmaps.spines import spine, spine_costs
from slotmaps.tables import is_at_most, supports


def certificate(atlas, root, first, second):
    """Return a certificate for two places in which the floor of the second one is their least cost."""
    maps = checked_places(atlas, root, first, second)
    insides = Insides(maps)
    copies = spine(maps, root, first, second)
    costs = spine_costs(insides, root, copies, first)
    floors = {}
    for address, chart in copies.items():
        for point in points_of(maps, chart):
            floors[place_of(address, point)] = costs[address].get(point)
    return (insides.tables, floors)


def bars(atlas, root, first, second, cost, value):
    """Return whether the value is a certificate for two places with a floor of the second one of at least the cost."""
    maps = checked_places(atlas, root, first, second)
    if cost is not None and not is_count(cost):
        raise BadCost()
    if not is_tuple(value, 2, 2):
        return False
    tables, floors = value
    return (
        supports(maps, tables)
        and are_floors(maps, spine(maps, root, first, second), tables, floors)
        and floors[first] == 0
        and is_at_most(cost, floors[second])
    )


def are_floors(maps, copies, tables, floors):
    """Return whether the value is a dict of floors that hold in these copies, whatever the first place."""
    if not isinstance(floors, dict) or len(floors) != many_places(maps, copies):
        return False
    for address, chart in copies.items():
        places = {point: place_of(address, point) for point in points_of(maps, chart)}
        if not all([place in floors and is_floor(floors[place]) for place in places.values()]):
            return False
        outside = {s: tables[name] for s, name in enumerate(chart[3]) if address + (s,) not in copies}
        if not floors_hold(chart, outside, {point: floors[place] for point, place in places.items()}):
            return False
    return True


def many_places(maps, copies):
    """Return the number of the places of these copies and of the ports of the copies in their slots."""
    many = 0
    for address, chart in copies.items():
        outside = [name for s, name in enumerate(chart[3]) if address + (s,) not in copies]
        many += len(chart[2]) + chart[1] + sum([maps[name][1] for name in outside])
    return many


def is_floor(value):
    """Return whether the value is None or an integer from 0 on."""
    return value is None or is_count(value)


def floors_hold(chart, outside, floors):
    """Return whether floors of the points of a copy hold by its edges and by the tables of the slots outside."""
    ways = list(chart[4])
    for s, table in outside.items():
        ways.extend([(("slot", s, i), ("slot", s, j), cost) for i, j, cost in entries(table)])
    for source, target, cost in ways:
        before = floors[source]
        if before is not None and not is_at_most(floors[target], before + cost):
            return False
    return True
