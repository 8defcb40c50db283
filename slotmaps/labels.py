"""The nearest node with a label."""

from heapq import heapify, heappop, heappush

from slotmaps.atlases import checked_maps
from slotmaps.checks import is_name
from slotmaps.crossings import start_costs
from slotmaps.errors import BadLabel
from slotmaps.insides import Insides
from slotmaps.places import check_place, names_along
from slotmaps.ranks import as_answer, lesser, moved_down, moved_out


def nearest(atlas, root, place, label):
    """Return (cost, place) of the nearest node with the label that can be reached, or None if there is none."""
    maps = checked_maps(atlas, root)
    check_place(maps, root, place)
    if not is_name(label):
        raise BadLabel()
    insides = Insides(maps)
    marked = Marked(insides, label)
    names = names_along(maps, root, place[0])
    starts = start_costs(insides, names, place)
    best = None
    # A path stays inside some copy around the place, to which it comes from the copies below. The copies further up
    # come last: what is found there mostly costs more.
    for level in reversed(range(len(starts))):
        cost, shape, _ = starts[level]
        found = marked.nearest_from(shape)
        if found is not None and (best is None or cost + found[0] <= best[0]):
            best = lesser(best, moved_down(found, cost, place[0][:level]))
    return as_answer(best)


class Marked:
    """The nearest nodes with a label inside copies."""

    def __init__(self, insides, label):
        self.insides = insides
        self.nodes = {name: nodes_with(chart, label) for name, chart in insides.maps.items()}
        self.inner = self.nearest_inside()
        self.known = {}

    def nearest_inside(self):
        """Return the nearest nodes inside copies from their ports, as a dict with keys (name, port).

        They are found in ascending order: a node is found from a port of the copy around only after it was found
        from a port of the copy in the slot, where it costs less.
        """
        waiting = {}
        queue = []
        for name, chart in self.insides.maps.items():
            for i in range(chart[1]):
                row = self.insides.row(name, ("port", i))
                queue.extend([(found, name, i) for found in self.nodes_in(name, row)])
                for inner, s, cost in entries_of_slots(chart, row):
                    waiting.setdefault(inner, []).append((cost, s, name, i))
        heapify(queue)
        settled = {}
        while queue:
            found, name, i = heappop(queue)
            key = (name, ("port", i))
            if key in settled:
                continue
            settled[key] = found
            for cost, s, outer, outer_i in waiting.get(key, []):
                heappush(queue, (moved_out(found, cost, s), outer, outer_i))
        return settled

    def nodes_in(self, name, row):
        """Return the nodes of a copy itself that are in a row of least costs."""
        return [(row[node], 0, (), node) for node in self.nodes[name] if node in row]

    def nearest_from(self, shape):
        """Return the nearest node inside a copy from points of it with the costs of the shape, or None."""
        if shape not in self.known:
            best = None
            for start, cost in shape.costs.items():
                found = self.nearest_from_point(shape.kind, start)
                if found is not None:
                    best = lesser(best, moved_down(found, cost, ()))
            self.known[shape] = best
        return self.known[shape]

    def nearest_from_point(self, name, start):
        """Return the nearest node inside a copy from a point, by the nearest ones inside the copies in the slots."""
        row = self.insides.row(name, start)
        best = None
        for found in self.nodes_in(name, row):
            best = lesser(best, found)
        for inner, s, cost in entries_of_slots(self.insides.maps[name], row):
            if inner in self.inner:
                best = lesser(best, moved_out(self.inner[inner], cost, s))
        return best


def nodes_with(chart, label):
    """Return the nodes of a map that have the label."""
    return [("node", j) for j, word in enumerate(chart[2]) if word == label]


def entries_of_slots(chart, row):
    """Return ((name, port), slot, cost) for each port of the copies in the slots that is in a row of least costs."""
    return [
        ((chart[3][point[1]], ("port", point[2])), point[1], cost)
        for point, cost in row.items()
        if point[0] == "slot"
    ]
