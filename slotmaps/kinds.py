"""Least costs of paths inside copies of which not all may be used.

Copies are of one kind if they have the same map and the same tables of the copies in their slots. A kind is a number.
"""

from slotmaps.graphs import least_costs, slot_graph, table_of


class Kinds:
    """The kinds of copies, and the least costs inside them, worked out as far as they are asked for."""

    def __init__(self, maps):
        self.maps = maps
        self.numbers = {}
        self.names = []
        self.graphs = []
        self.rows = {}

    def number(self, name, tables):
        """Return the kind of the copies of a map with these tables, or of those that may not be used for None.

        The tables are a tuple with a table for each slot, or None for a slot whose copy may not be used.
        """
        key = (name, tables)
        if key not in self.numbers:
            self.numbers[key] = len(self.names)
            self.names.append(name)
            self.graphs.append({} if tables is None else slot_graph(self.maps[name], tables))
        return self.numbers[key]

    def many_ports(self, kind):
        """Return the number of ports of a copy of this kind."""
        return self.maps[self.names[kind]][1]

    def row(self, kind, start):
        """Return the least cost from the start to each point of a copy of this kind that can be reached."""
        key = (kind, start)
        if key not in self.rows:
            self.rows[key] = least_costs(self.graphs[kind], start)
        return self.rows[key]

    def port_table(self, kind):
        """Return the port table of a copy of this kind."""
        ports = [("port", i) for i in range(self.many_ports(kind))]
        return table_of([self.row(kind, port) for port in ports], ports)
