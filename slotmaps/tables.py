"""Port tables: what the ways between the ports of a map cost at least, inside one copy of the map."""

from slotmaps.atlases import checked_atlas, checked_maps
from slotmaps.checks import is_count, is_index, is_tuple
from slotmaps.errors import BadDepth, BadPort
from slotmaps.graphs import least_costs, slot_graph, table_of
from slotmaps.insides import Insides


def port_tables(atlas):
    """Return a dict from each map name to its port table."""
    return Insides(checked_atlas(atlas)).tables


def limited_tables(atlas, depth):
    """Return the same, but only for paths of at most this depth."""
    maps = checked_atlas(atlas)
    if not is_count(depth):
        raise BadDepth()
    return tables_by_depth(maps, depth)[-1]


def depth_profile(atlas, name, i, j):
    """Return (depth, cost) for each depth that makes the least cost from port i to port j lower."""
    maps = checked_maps(atlas, name)
    ports = maps[name][1]
    if not is_index(i, ports) or not is_index(j, ports):
        raise BadPort()
    profile = []
    before = None
    for depth, tables in enumerate(tables_by_depth(maps, None)):
        cost = tables[name][i][j]
        if cost != before:
            profile.append((depth, cost))
            before = cost
    return profile


def is_supporting(atlas, value):
    """Return whether the value is a self-supporting table set."""
    return supports(checked_atlas(atlas), value)


def supports(maps, value):
    """Return whether the value is a self-supporting table set for these maps."""
    if not isinstance(value, dict) or len(value) != len(maps):
        return False
    for name in maps:
        if name not in value or not has_table_form(value[name], maps[name][1]):
            return False
    return all([supports_itself(maps[name], value) for name in maps])


def has_table_form(value, ports):
    """Return whether the value is a table of this size, of None and integers from 0 on."""
    if not is_tuple(value, ports, ports):
        return False
    for row in value:
        if not is_tuple(row, ports, ports) or not all([cost is None or is_count(cost) for cost in row]):
            return False
    return True


def supports_itself(chart, tables):
    """Return whether no entry of the table of a map is greater than what the tables give for it."""
    given = table_from(chart, tables)
    for row, costs in zip(tables[chart[0]], given):
        if not all([is_at_most(entry, cost) for entry, cost in zip(row, costs)]):
            return False
    return True


def is_at_most(low, high):
    """Return whether one number is at most the other; None is greater than every integer."""
    return high is None or (low is not None and low <= high)


def table_from(chart, tables):
    """Return the table of a map that follows from the tables of the maps in its slots."""
    graph = slot_graph(chart, [tables[name] for name in chart[3]])
    ports = [("port", i) for i in range(chart[1])]
    return table_of([least_costs(graph, port) for port in ports], ports)


def tables_by_depth(maps, most):
    """Return a list of the tables for the depths 0, 1, 2 and so on up to most, as long as they change.

    If most is None, the list ends only where the tables change no more.
    """
    tables = {name: ((None,) * maps[name][1],) * maps[name][1] for name in maps}
    changed = list(maps)
    found = []
    while changed and (most is None or len(found) <= most):
        # Only a map with a changed map in a slot can change, but for the first depth.
        next_tables = {
            name: table_from(maps[name], tables) if not found or holds_one(maps[name], changed) else tables[name]
            for name in maps
        }
        changed = [name for name in maps if next_tables[name] != tables[name]]
        tables = next_tables
        if changed:
            found.append(tables)
    return found


def holds_one(chart, names):
    """Return whether one of the slots of a map holds one of these maps."""
    return any([name in names for name in chart[3]])
