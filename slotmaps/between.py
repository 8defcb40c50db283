"""Least costs between places, and between the ports of a copy outside of it."""

from slotmaps.atlases import checked_maps
from slotmaps.crossings import Crossing
from slotmaps.errors import BadAddress
from slotmaps.graphs import entries, least_costs, slot_graph, table_of
from slotmaps.insides import Insides
from slotmaps.places import checked_places, names_along, passed_copy


def cost_between(atlas, root, first, second):
    """Return the least cost of a path from one place to the other, or None if there is none."""
    maps = checked_places(atlas, root, first, second)
    return crossing_between(Insides(maps), root, first, second).cost()


def crossing_between(insides, root, first, second):
    """Return the paths from one place to another that may use all copies."""
    first_names = names_along(insides.maps, root, first[0])
    second_names = names_along(insides.maps, root, second[0])
    return Crossing(insides, first, second, first_names, second_names)


def outer_table(atlas, root, address):
    """Return the table of the least costs between the ports of a copy by paths that do not use it or copies in it."""
    maps = checked_maps(atlas, root)
    if passed_copy(maps, root, address) is None:
        raise BadAddress()
    tables = Insides(maps).tables
    outer = tuple([tuple([0 if i == j else None for j in range(maps[root][1])]) for i in range(maps[root][1])])
    # In deep copies the same step from table to table often comes again.
    known = {}
    for name, s in zip(names_along(maps, root, address), address):
        key = (name, s, outer)
        if key not in known:
            known[key] = next_outer_table(maps, tables, name, s, outer)
        outer = known[key]
    return outer


def next_outer_table(maps, tables, name, s, outer):
    """Return the outer table of the copy in a slot of a copy with this outer table."""
    chart = maps[name]
    graph = slot_graph(chart, [None if k == s else tables[inner] for k, inner in enumerate(chart[3])])
    for i, j, cost in entries(outer):
        graph.setdefault(("port", i), []).append((("port", j), cost))
    ports = [("slot", s, i) for i in range(maps[chart[3][s]][1])]
    return table_of([least_costs(graph, port) for port in ports], ports)
