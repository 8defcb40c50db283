"""Paths from one place of the expansion to another, by the copies that lie around the two places.

A path stays inside some copy around both places. It leaves the copies around the first place one by one, moves
inside that copy, and enters the copies around the second place one by one. So all that has to be known is what
paths inside one copy cost. The level of a copy around a place is the length of its address.
"""

from slotmaps.shapes import Shape, Shapes


class Crossing:
    """The paths from one place to another; for each level around a place there is the kind of the copy.

    Insides, or others that give the row and the number of ports of a kind, say what the paths inside a copy cost.
    """

    def __init__(self, insides, first, second, first_kinds, second_kinds):
        self.insides = insides
        self.first_kinds = first_kinds
        self.second_kinds = second_kinds
        self.common = common_length(first[0], second[0])
        self.starts = start_costs(insides, first_kinds, first)
        self.ends = end_costs(insides, second_kinds, second)

    def cost(self):
        """Return the least cost of a path, or None if there is no path."""
        found = self.cheapest()
        return None if found is None else found[0]

    def cheapest(self):
        """Return (cost, level, start, end) of a path of least cost, or None if there is no path.

        At this level the path goes from the start to the end inside the copy; before and behind, it is below.
        """
        best = None
        known = {}
        for level in range(self.common + 1):
            before, starts, _ = self.starts[level]
            behind, ends, _ = self.ends[level]
            if (starts, ends) not in known:
                known[(starts, ends)] = cheapest_inside(self.insides, starts, ends)
            found = known[(starts, ends)]
            if found is not None and (best is None or before + found[0] + behind < best[0]):
                cost, start, end = found
                best = (before + cost + behind, level, start, end)
        return best

    def ways_up(self, level, point):
        """Return (level, start, end) for each copy that a cheapest path leaves to come to a start of a level."""
        ways = []
        while level < len(self.starts) - 1:
            end = ("port", point[2])
            point = self.starts[level][2][point]
            level += 1
            ways.append((level, point, end))
        ways.reverse()
        return ways

    def ways_down(self, level, point):
        """Return (level, start, end) for each copy that a cheapest path enters from an end of a level."""
        ways = []
        while level < len(self.ends) - 1:
            start = ("port", point[2])
            point = self.ends[level][2][point]
            level += 1
            ways.append((level, start, point))
        return ways


def common_length(address, other):
    """Return the length of the longest address that both addresses begin with."""
    length = 0
    for s, other_s in zip(address, other):
        if s != other_s:
            break
        length += 1
    return length


def cheapest_inside(insides, starts, ends):
    """Return (cost, start, end) of a cheapest way inside a copy, with the costs of its start and its end, or None."""
    best = None
    for start, before in starts.costs.items():
        row = insides.row(starts.kind, start)
        for end, behind in ends.costs.items():
            if end in row and (best is None or before + row[end] + behind < best[0]):
                best = (before + row[end] + behind, start, end)
    return best


def start_costs(insides, kinds, place):
    """Return, for each level of a place, how cheaply paths from the place come to its copy from the one below.

    This is (base, shape, origins): the costs of points of the copy, and a dict from these points to those where the
    paths come to the copy below. The last level has the point of the place alone, and no origins.
    """
    return costs_by_level(insides, kinds, place, costs_out)


def end_costs(insides, kinds, place):
    """Return, for each level of a place, how cheaply paths to the place go from its copy by the one below.

    This is (base, shape, origins): the costs of points of the copy, and a dict from these points to those where the
    paths leave the copy below. The last level has the point of the place alone, and no origins.
    """
    return costs_by_level(insides, kinds, place, costs_in)


def costs_by_level(insides, kinds, place, costs_around):
    """Return (base, shape, origins) for each level of a place; a function gives those of a level by the level below."""
    address, point = place
    shapes = Shapes()
    base, shape = 0, Shape(kinds[-1], {point: 0})
    levels = [(base, shape, {})]
    # The same step from shape to shape often comes again.
    known = {}
    for level in reversed(range(len(address))):
        key = (shape, address[level], kinds[level])
        if key not in known:
            costs, origins = costs_around(insides, shape, address[level])
            known[key] = (*shapes.shaped(kinds[level], costs), origins)
        more, shape, origins = known[key]
        base += more
        levels.append((base, shape, origins))
    levels.reverse()
    return levels


def costs_out(insides, shape, s):
    """Return (costs, origins) of points of a copy for paths out of the copy in a slot, from points with this shape."""
    costs, origins = {}, {}
    for start, before in shape.costs.items():
        row = insides.row(shape.kind, start)
        for i in range(insides.many_ports(shape.kind)):
            cost = row.get(("port", i))
            if cost is not None:
                keep_cheaper(costs, origins, ("slot", s, i), before + cost, start)
    return (costs, origins)


def costs_in(insides, shape, s):
    """Return (costs, origins) of points of a copy for paths into the copy in a slot, to points with this shape."""
    costs, origins = {}, {}
    for i in range(insides.many_ports(shape.kind)):
        row = insides.row(shape.kind, ("port", i))
        for end, behind in shape.costs.items():
            cost = row.get(end)
            if cost is not None:
                keep_cheaper(costs, origins, ("slot", s, i), cost + behind, end)
    return (costs, origins)


def keep_cheaper(costs, origins, point, cost, origin):
    """Keep the cost and the origin for the point, unless the cost that is kept for it is no more."""
    if point not in costs or cost < costs[point]:
        costs[point] = cost
        origins[point] = origin
