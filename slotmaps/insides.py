"""Least costs of paths that stay inside one copy of a map.

Inside a copy, a path consists of moves: an edge of the map, ("edge", e), or a way through the copy in a slot,
("call", s, (name, i, j)), from port i to port j of the copy of the map of that name in slot s.
"""

from heapq import heapify, heappop, heappush

from slotmaps.graphs import edge_graph, entries, least_costs, slot_graph, table_of


class Insides:
    """The least costs inside copies of the maps of an atlas, worked out as far as they are asked for."""

    def __init__(self, maps):
        self.maps = maps
        self.rows = port_rows(maps)
        self.tables = {name: self.port_table(name) for name in maps}
        self.graphs = {}
        self.moves = {}

    def many_ports(self, name):
        """Return the number of ports of a map."""
        return self.maps[name][1]

    def port_table(self, name):
        """Return the port table of a map."""
        ports = [("port", i) for i in range(self.maps[name][1])]
        return table_of([self.rows[(name, port)] for port in ports], ports)

    def row(self, name, start):
        """Return the least cost from the start to each point of a copy of the map that can be reached."""
        key = (name, start)
        if key not in self.rows:
            self.rows[key] = least_costs(self.graph(name), start)
        return self.rows[key]

    def graph(self, name):
        """Return the graph of the edges of a map and of the ways through the copies in its slots."""
        if name not in self.graphs:
            chart = self.maps[name]
            self.graphs[name] = slot_graph(chart, [self.tables[inner] for inner in chart[3]])
        return self.graphs[name]

    def arrivals(self, name):
        """Return a dict from points of a map to the moves that end there, as (move, source, cost)."""
        if name not in self.moves:
            self.moves[name] = moves_by_target(self.maps[name], self.tables)
        return self.moves[name]

    def last_moves(self, name, start, end):
        """Return the last moves of the paths of least cost from the start to the end, as (move, source)."""
        row = self.row(name, start)
        total = row[end]
        return [
            (move, source)
            for move, source, cost in self.arrivals(name).get(end, [])
            if source in row and row[source] + cost == total
        ]


def port_rows(maps):
    """Return the rows of least costs from the ports of all maps, as a dict with keys (name, port).

    All rows grow together, in ascending order of cost. A way through a copy costs more than nothing, so that
    its cost is known, from the row of the map in the slot, before it is needed; maps may contain themselves.
    """
    graphs = {name: edge_graph(maps[name]) for name in maps}
    rows = {(name, ("port", i)): {} for name in maps for i in range(maps[name][1])}
    waiting = {key: [] for key in rows}
    queue = [(0, name, port, port) for name, port in rows]
    heapify(queue)
    while queue:
        cost, name, start, here = heappop(queue)
        row = rows[(name, start)]
        if here in row:
            continue
        row[here] = cost
        for target, price in graphs[name].get(here, []):
            if target not in row:
                heappush(queue, (cost + price, name, start, target))
        if here[0] == "slot":
            inner = (maps[name][3][here[1]], ("port", here[2]))
            waiting[inner].append((cost, name, start, here[1]))
            for j in range(maps[inner[0]][1]):
                if ("port", j) in rows[inner]:
                    heappush(queue, (cost + rows[inner][("port", j)], name, start, ("slot", here[1], j)))
        if here[0] == "port":
            for before, outer, outer_start, s in waiting[(name, start)]:
                heappush(queue, (before + cost, outer, outer_start, ("slot", s, here[1])))
    return rows


def moves_by_target(chart, tables):
    """Return a dict from points of a map to the moves that end there, as (move, source, cost)."""
    moves = {}
    for e, (source, target, cost) in enumerate(chart[4]):
        moves.setdefault(target, []).append((("edge", e), source, cost))
    for s, name in enumerate(chart[3]):
        for i, j, cost in entries(tables[name]):
            move = ("call", s, (name, i, j))
            moves.setdefault(("slot", s, j), []).append((move, ("slot", s, i), cost))
    return moves
