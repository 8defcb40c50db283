"""Maps that can replace one another, and atlases with a slot or an edge changed."""

from slotmaps.atlases import (
    MOST_COST,
    MOST_EDGES,
    atlas_error,
    check_map_name,
    check_points,
    checked_atlas,
    checked_maps,
)
from slotmaps.checks import is_index, is_integer_in
from slotmaps.errors import BadAtlas, BadCost, BadPoint, BadSlot, NoEdge, TooLarge
from slotmaps.graphs import entries
from slotmaps.insides import Insides


def same_outside(atlas, name, other):
    """Return whether two maps have the same number of ports and equal port tables."""
    maps = checked_maps(atlas, name)
    check_map_name(maps, other)
    tables = Insides(maps).tables
    return tables[name] == tables[other]


def summary(atlas, name):
    """Return the map of the same name and port table that has no nodes and slots, and the fewest edges."""
    maps = checked_maps(atlas, name)
    return summary_of(maps[name], Insides(maps).tables[name])


def summarized(atlas):
    """Return the atlas in which every map is replaced by its summary."""
    tables = Insides(checked_atlas(atlas)).tables
    return tuple([summary_of(chart, tables[chart[0]]) for chart in atlas])


def summary_of(chart, table):
    """Return the summary of a map with this port table."""
    edges = [(("port", i), ("port", j), cost) for i, j, cost in entries(table) if not is_detour(table, i, j)]
    if not all([cost <= MOST_COST for _, _, cost in edges]):
        raise TooLarge()
    return (chart[0], chart[1], (), (), tuple(edges))


def is_detour(table, i, j):
    """Return whether a way from port i to port j costs no more by some other port, so that it needs no edge."""
    for k, behind in enumerate(table):
        before = table[i][k]
        if k not in (i, j) and before is not None and behind[j] is not None and before + behind[j] == table[i][j]:
            return True
    return False


def with_slot(atlas, name, s, other):
    """Return the atlas in which slot s of the map holds the other map."""
    maps = checked_maps(atlas, name)
    check_map_name(maps, other)
    slots = maps[name][3]
    if not is_index(s, len(slots)):
        raise BadSlot()
    changed = with_map(atlas, maps[name][:3] + (slots[:s] + (other,) + slots[s + 1 :], maps[name][4]))
    reason = atlas_error(changed)
    if reason is not None:
        raise BadAtlas(reason)
    return changed


def with_edge(atlas, name, source, target, cost):
    """Return the atlas in which the map has the edge with this cost."""
    maps = checked_maps(atlas, name)
    check_points(maps, name, source, target)
    if source == target:
        raise BadPoint()
    if not is_integer_in(cost, 1, MOST_COST):
        raise BadCost()
    edges = sorted(other_edges(maps[name], source, target) + [(source, target, cost)])
    if len(edges) > MOST_EDGES:
        raise BadAtlas(("edges", list(maps).index(name)))
    return with_map(atlas, maps[name][:4] + (tuple(edges),))


def without_edge(atlas, name, source, target):
    """Return the atlas in which the map does not have the edge."""
    maps = checked_maps(atlas, name)
    check_points(maps, name, source, target)
    edges = other_edges(maps[name], source, target)
    if len(edges) == len(maps[name][4]):
        raise NoEdge()
    return with_map(atlas, maps[name][:4] + (tuple(edges),))


def other_edges(chart, source, target):
    """Return a list of the edges of a map but the one between these points."""
    return [edge for edge in chart[4] if edge[:2] != (source, target)]


def with_map(atlas, changed):
    """Return the atlas with a changed map in place of that of the same name."""
    return tuple([changed if chart[0] == changed[0] else chart for chart in atlas])
