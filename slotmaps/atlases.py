"""Atlases: which values are atlases, and what is wrong with those that are not.

A variable that holds a map is called chart, since map is the name of a builtin.
"""

from slotmaps.checks import is_index, is_integer_in, is_name, is_names, is_tuple
from slotmaps.errors import BadAtlas, BadPoint, UnknownMap

MOST_MAPS = 8
MOST_PORTS = 4
MOST_LABELS = 8
MOST_SLOTS = 4
MOST_EDGES = 40
MOST_COST = 1000000


def atlas_error(value):
    """Return None for an atlas, otherwise a tuple that tells the first fault."""
    if not is_tuple(value, 1, MOST_MAPS):
        return ("atlas",)
    # Each search relies on the absence of the faults before it.
    reason = map_fault(value)
    if reason is None:
        reason = slot_fault(value)
    if reason is None:
        reason = edges_fault(value)
    if reason is None:
        reason = edge_fault(value)
    return reason


def is_atlas(value):
    """Return whether the value is an atlas."""
    return atlas_error(value) is None


def checked_atlas(atlas):
    """Return the maps of the atlas by name; raise BadAtlas if it is no atlas."""
    reason = atlas_error(atlas)
    if reason is not None:
        raise BadAtlas(reason)
    return maps_by_name(atlas)


def checked_maps(atlas, name):
    """Return the maps of the atlas by name; raise BadAtlas, then UnknownMap for the name."""
    maps = checked_atlas(atlas)
    check_map_name(maps, name)
    return maps


def check_map_name(maps, name):
    """Raise UnknownMap if the value is not the name of one of these maps."""
    # Only a string is looked up: other values may have no hash.
    if not isinstance(name, str) or name not in maps:
        raise UnknownMap()


def check_points(maps, name, first, second):
    """Raise BadPoint if one of two values is not a point of the map."""
    if not is_point(maps, maps[name], first) or not is_point(maps, maps[name], second):
        raise BadPoint()


def maps_by_name(atlas):
    """Return a dict from each map name to its map."""
    return {chart[0]: chart for chart in atlas}


def map_fault(items):
    """Return the first fault of a map on its own, its edges left out, or of the order of the names."""
    before = ""
    for k, item in enumerate(items):
        if not has_map_form(item) or item[0] <= before:
            return ("map", k)
        before = item[0]
    return None


def has_map_form(value):
    """Return whether the value is like a map, as far as this can be told without its edges and other maps."""
    if not is_tuple(value, 5, 5):
        return False
    name, ports, labels, slots, _ = value
    return (
        is_name(name)
        and is_integer_in(ports, 1, MOST_PORTS)
        and is_names(labels, MOST_LABELS)
        and is_names(slots, MOST_SLOTS)
    )


def slot_fault(atlas):
    """Return the first slot that holds no map of the atlas."""
    names = [chart[0] for chart in atlas]
    for k, chart in enumerate(atlas):
        for s, name in enumerate(chart[3]):
            if name not in names:
                return ("slot", k, s)
    return None


def edges_fault(atlas):
    """Return the first map whose edges are not a tuple of the right length."""
    for k, chart in enumerate(atlas):
        if not is_tuple(chart[4], 0, MOST_EDGES):
            return ("edges", k)
    return None


def edge_fault(atlas):
    """Return the first edge that is none of its map, or stands in the wrong order."""
    maps = maps_by_name(atlas)
    for k, chart in enumerate(atlas):
        before = ()
        for e, edge in enumerate(chart[4]):
            # With ascending sources and targets the edges ascend, and no two have the same ones.
            if not is_edge(maps, chart, edge) or edge[:2] <= before:
                return ("edge", k, e)
            before = edge[:2]
    return None


def is_edge(maps, chart, value):
    """Return whether the value is an edge between points of this map."""
    if not is_tuple(value, 3, 3):
        return False
    source, target, cost = value
    return (
        is_point(maps, chart, source)
        and is_point(maps, chart, target)
        and source != target
        and is_integer_in(cost, 1, MOST_COST)
    )


def is_point(maps, chart, value):
    """Return whether the value is a point of this map."""
    if not is_tuple(value, 2, 3):
        return False
    if len(value) == 3:
        word, s, i = value
        return word == "slot" and is_index(s, len(chart[3])) and is_index(i, maps[chart[3][s]][1])
    word, j = value
    return (word == "node" and is_index(j, len(chart[2]))) or (word == "port" and is_index(j, chart[1]))


def points_of(maps, chart):
    """Return all points of this map."""
    nodes = [("node", j) for j in range(len(chart[2]))]
    ports = [("port", i) for i in range(chart[1])]
    return nodes + ports + [("slot", s, i) for s, name in enumerate(chart[3]) for i in range(maps[name][1])]
