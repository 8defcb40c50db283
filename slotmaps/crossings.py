"""Paths from one place of the expansion to another, by the copies that lie around the two places.

A path stays inside some copy around both places. It leaves the copies around the first place one by one, moves
inside that copy, and enters the copies around the second place one by one. So all that has to be known is what
paths inside one copy cost. The level of a copy around a place is the length of its address.
"""


class Crossing:
    """The paths from one place to another; for each level around a place there is the kind of the copy.

    Insides, or others that give the row and the number of ports of a kind, say what the paths inside a copy cost.
    """

    def __init__(self, insides, first, second, first_kinds, second_kinds):
        self.insides = insides
        self.first_kinds = first_kinds
        self.second_kinds = second_kinds
        self.common = common_length(first[0], second[0])
        self.starts = start_costs(insides, first_kinds, first)
        self.ends = end_costs(insides, second_kinds, second)

    def cost(self):
        """Return the least cost of a path, or None if there is no path."""
        found = self.cheapest()
        return None if found is None else found[0]

    def cheapest(self):
        """Return (cost, level, start, end) of a path of least cost, or None if there is no path.

        At this level the path goes from the start to the end inside the copy; before and behind, it is below.
        """
        best = None
        for level in range(self.common + 1):
            kind = self.first_kinds[level]
            for start, (before, _) in self.starts[level].items():
                row = self.insides.row(kind, start)
                for end, (behind, _) in self.ends[level].items():
                    if end in row and (best is None or before + row[end] + behind < best[0]):
                        best = (before + row[end] + behind, level, start, end)
        return best

    def ways_up(self, level, point):
        """Return (level, start, end) for each copy that a cheapest path leaves to come to a start of a level."""
        ways = []
        while level < len(self.starts) - 1:
            end = ("port", point[2])
            _, point = self.starts[level][point]
            level += 1
            ways.append((level, point, end))
        ways.reverse()
        return ways

    def ways_down(self, level, point):
        """Return (level, start, end) for each copy that a cheapest path enters from an end of a level."""
        ways = []
        while level < len(self.ends) - 1:
            start = ("port", point[2])
            _, point = self.ends[level][point]
            level += 1
            ways.append((level, start, point))
        return ways


def common_length(address, other):
    """Return the length of the longest address that both addresses begin with."""
    length = 0
    for s, other_s in zip(address, other):
        if s != other_s:
            break
        length += 1
    return length


def start_costs(insides, kinds, place):
    """Return, for each level of a place, how cheaply paths from the place come to its copy from the one below.

    This is a dict from points of the copy to (cost, point where the path comes to the copy below). The last level
    has the point of the place alone.
    """
    address, point = place
    levels = [{point: (0, None)}]
    for level in reversed(range(len(address))):
        kind = kinds[level + 1]
        found = {}
        for start, (before, _) in levels[-1].items():
            row = insides.row(kind, start)
            for i in range(insides.many_ports(kind)):
                if ("port", i) in row:
                    keep_cheaper(found, ("slot", address[level], i), before + row[("port", i)], start)
        levels.append(found)
    levels.reverse()
    return levels


def end_costs(insides, kinds, place):
    """Return, for each level of a place, how cheaply paths to the place go from its copy by the one below.

    This is a dict from points of the copy to (cost, point where the path leaves the copy below). The last level
    has the point of the place alone.
    """
    address, point = place
    levels = [{point: (0, None)}]
    for level in reversed(range(len(address))):
        kind = kinds[level + 1]
        found = {}
        for i in range(insides.many_ports(kind)):
            row = insides.row(kind, ("port", i))
            for end, (behind, _) in levels[-1].items():
                if end in row:
                    keep_cheaper(found, ("slot", address[level], i), row[end] + behind, end)
        levels.append(found)
    levels.reverse()
    return levels


def keep_cheaper(found, point, cost, other):
    """Keep (cost, other) for the point, unless what is kept for it costs no more."""
    if point not in found or cost < found[point][0]:
        found[point] = (cost, other)
