"""The spine of two places, which are the copies around them, and the least costs of the points of its copies.

A path to a place inside another copy comes by a port of one of those beside the spine, and stays inside from there.
"""

from slotmaps.atlases import points_of
from slotmaps.copies import Copies
from slotmaps.crossings import start_costs
from slotmaps.shapes import Shape, Shapes


def spine(maps, root, first, second):
    """Return the copies around two places; those around the first one have the numbers from 0 on."""
    copies = Copies(maps, root)
    copies.along(first[0])
    copies.along(second[0])
    return copies


def spine_costs(insides, copies, place):
    """Return (base, shape) of the least costs of the points of each copy, by its number, from a place in the spine."""
    numbers = copies.along(place[0])
    starts = dict(zip(numbers, start_costs(insides, [copies.names[number] for number in numbers], place)))
    spreads = Spreads(insides)
    costs = [spreads.costs_of(copies.names[0], (0, Shape(None, {})), None, starts[0])]
    for number in range(1, len(copies.names)):
        outer = costs[copies.around[number]]
        costs.append(spreads.costs_of(copies.names[number], outer, copies.addresses[number][-1], starts.get(number)))
    return costs


class Spreads:
    """The least costs of the points of copies, as they spread from the points where paths come to the copies."""

    def __init__(self, insides):
        self.insides = insides
        self.shapes = Shapes()
        self.known = {}
        self.spread_shapes = {}

    def costs_of(self, name, outer, s, starts):
        """Return (base, shape) of the least costs of the points of a copy.

        The outer costs, (base, shape) too, are those of the copy around it, where it is in slot s. The starts are
        those of paths from inside the copy, or None if the paths come from outside.
        """
        base, around = outer
        before, inside, _ = (base, None, {}) if starts is None else starts
        key = (around, s, inside, before - base)
        if key not in self.known:
            costs = {} if inside is None else {point: before - base + cost for point, cost in inside.costs.items()}
            # A path that comes from outside the copy has come in by one of its ports; the costs of these are the least.
            for i in range(self.insides.many_ports(name)):
                cost = around.costs.get(("slot", s, i))
                if cost is not None:
                    costs[("port", i)] = cost
            more, shape = self.shapes.shaped(name, costs)
            self.known[key] = (more, self.spread(shape))
        more, shape = self.known[key]
        return (base + more, shape)

    def spread(self, shape):
        """Return the shape of the least costs of all points of a copy, by paths inside it, from points with a shape."""
        if shape not in self.spread_shapes:
            costs = {}
            for start, before in shape.costs.items():
                for point, cost in self.insides.row(shape.kind, start).items():
                    if point not in costs or before + cost < costs[point]:
                        costs[point] = before + cost
            self.spread_shapes[shape] = Shape(shape.kind, costs)
        return self.spread_shapes[shape]


def points_with(maps, chart, inner):
    """Return (relative address, points) for the places of a copy and of the copies in all slots but the inner ones.

    The points are pairs: the point of the place, and the same point as one of the copy itself.
    """
    found = [((), [(point, point) for point in points_of(maps, chart) if point[0] != "slot"])]
    for s, name in enumerate(chart[3]):
        if s not in inner:
            found.append(((s,), [(("port", i), ("slot", s, i)) for i in range(maps[name][1])]))
    return found
