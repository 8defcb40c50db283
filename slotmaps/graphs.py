"""The finite graph of the points of one map: a dict from a point to the list of (target, cost) that leave it."""

from heapq import heappop, heappush


def edge_graph(chart):
    """Return the graph of the edges of a map."""
    graph = {}
    for source, target, cost in chart[4]:
        graph.setdefault(source, []).append((target, cost))
    return graph


def slot_graph(chart, tables):
    """Return the graph of the edges of a map and of the entries of the tables of the maps in its slots.

    There is a table for each slot, or None for a slot that is left out.
    """
    graph = edge_graph(chart)
    for s, table in enumerate(tables):
        if table is not None:
            for i, j, cost in entries(table):
                graph.setdefault(("slot", s, i), []).append((("slot", s, j), cost))
    return graph


def entries(table):
    """Return (i, j, cost) for each entry of a table that is not None, without those from a port to itself."""
    return [
        (i, j, cost)
        for i, row in enumerate(table)
        for j, cost in enumerate(row)
        if i != j and cost is not None
    ]


def least_costs(graph, start):
    """Return the least cost of each point that can be reached from the start."""
    costs = {}
    queue = [(0, start)]
    while queue:
        cost, here = heappop(queue)
        if here in costs:
            continue
        costs[here] = cost
        for target, price in graph.get(here, []):
            if target not in costs:
                heappush(queue, (cost + price, target))
    return costs


def table_of(rows, points):
    """Return the table of the costs between some points, of which each has a row of least costs."""
    return tuple([tuple([row.get(point) for point in points]) for row in rows])
