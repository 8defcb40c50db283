"""The number of nodes that can be reached at some depth.

Of a copy beside the spine all that counts is its pair: the name of its map, and those of its ports that can be
reached. Pairs have numbers.
"""

from slotmaps.atlases import checked_maps
from slotmaps.checks import is_integer_in, is_name
from slotmaps.errors import BadDepth, BadLabel, BadModulus, TooLarge
from slotmaps.insides import Insides
from slotmaps.places import check_place
from slotmaps.spines import spine, spine_costs

MOST_DEPTH = 2000
MOST_MOD_DEPTH = 10**18
MOST_MODULUS = 10**9
MOST_PAIRS = 24

# The bits of a field, with room for a sum of 24 products of numbers below the modulus.
FIELD = 72
MASK = (1 << 72) - 1


def count_at(atlas, root, place, label, depth):
    """Return the number of nodes with the label that can be reached at this depth; of all nodes for None."""
    maps = checked_maps(atlas, root)
    check_count(maps, root, place, label, depth, MOST_DEPTH)
    reach = Reach(Insides(maps), root, place)
    return reach.many_nodes(label, depth, reach.counts(depth))


def count_mod(atlas, root, place, label, depth, modulus):
    """Return that number modulo the modulus."""
    maps = checked_maps(atlas, root)
    check_count(maps, root, place, label, depth, MOST_MOD_DEPTH)
    if not is_integer_in(modulus, 1, MOST_MODULUS):
        raise BadModulus()
    reach = Reach(Insides(maps), root, place)
    if len(reach.pairs) > MOST_PAIRS:
        raise TooLarge()
    # Below the spine each copy comes of the one around it, in the same way at each depth.
    near = min(depth, len(place[0]) + 1)
    counts = powered(reach.inner, reach.counts(near), depth - near, modulus)
    return reach.many_nodes(label, depth, counts) % modulus


def check_count(maps, root, place, label, depth, most):
    """Raise BadPlace, BadLabel or BadDepth if one of the values is not as it must be."""
    check_place(maps, root, place)
    if label is not None and not is_name(label):
        raise BadLabel()
    if not is_integer_in(depth, 0, most):
        raise BadDepth()


class Reach:
    """What can be reached from a place, in the copies of its spine and by the pairs of the copies beside it."""

    def __init__(self, insides, root, place):
        self.insides = insides
        self.pairs = []
        self.numbers = {}
        copies = spine(insides.maps, root, place, place)
        # By level: the map of the copy of the spine with its points, and the pairs in its other slots.
        self.levels = []
        self.beside = []
        known = {}
        for level, (_, shape) in enumerate(spine_costs(insides, copies, place)):
            chart = insides.maps[shape.kind]
            key = (shape, place[0][level : level + 1])
            if key not in known:
                known[key] = self.pairs_in(chart, shape.costs, key[1])
            self.levels.append((chart, shape.costs))
            self.beside.append(known[key])
        # By number: the map of the pair with its points, and the pairs in all its slots.
        self.points = []
        self.inner = []
        while len(self.inner) < len(self.pairs):
            chart, points = self.points_of(self.pairs[len(self.inner)])
            self.points.append((chart, points))
            self.inner.append(self.pairs_in(chart, points, ()))

    def points_of(self, pair):
        """Return the map of a pair, and a dict whose keys are the points that can be reached in a copy of it."""
        name, ports = pair
        rows = [self.insides.row(name, ("port", i)) for i in ports]
        return (self.insides.maps[name], {point: True for row in rows for point in row})

    def pairs_in(self, chart, points, left_out):
        """Return the numbers of the pairs of the copies in all slots of a copy but these, for these points of it."""
        found = []
        for s, name in enumerate(chart[3]):
            ports = [i for i in range(self.insides.many_ports(name)) if ("slot", s, i) in points]
            if ports and s not in left_out:
                found.append(self.number((name, tuple(ports))))
        return found

    def number(self, pair):
        """Return the number of a pair; it gets one now if it has none."""
        if pair not in self.numbers:
            self.numbers[pair] = len(self.pairs)
            self.pairs.append(pair)
        return self.numbers[pair]

    def counts(self, depth):
        """Return how many copies beside the spine there are at this depth, for each pair."""
        counts = [0] * len(self.pairs)
        for level in range(depth):
            below = [0] * len(self.pairs)
            for number, count in enumerate(counts):
                if count:
                    for inner in self.inner[number]:
                        below[inner] += count
            if level < len(self.beside):
                for number in self.beside[level]:
                    below[number] += 1
            counts = below
        return counts

    def many_nodes(self, label, depth, counts):
        """Return the number of nodes with the label at this depth, where there are so many copies of each pair."""
        many = sum([count * nodes_in(chart, points, label) for count, (chart, points) in zip(counts, self.points)])
        if depth < len(self.levels):
            chart, points = self.levels[depth]
            many += nodes_in(chart, points, label)
        return many


def nodes_in(chart, points, label):
    """Return the number of nodes of a map among the points that have the label; of all nodes for None."""
    return len([j for j, word in enumerate(chart[2]) if ("node", j) in points and label in (None, word)])


def powered(inner, counts, depth, modulus):
    """Return the counts so many levels further down, modulo the modulus; each pair has pairs inside it."""
    counts = [count % modulus for count in counts]
    # The rows hold how many pairs of each number there are one level inside a pair, then two, four, and so on.
    rows = [[inside.count(number) for number in range(len(counts))] for inside in inner]
    while depth:
        packed_rows = [packed(row) for row in rows]
        if depth & 1:
            counts = times(counts, packed_rows, modulus)
        depth = depth >> 1
        if depth:
            rows = [times(row, packed_rows, modulus) for row in rows]
    return counts


def packed(row):
    """Return one integer with a field of bits for each number of a row; so a whole row is multiplied at once."""
    return sum([x << (FIELD * k) for k, x in enumerate(row)])


def times(row, packed_rows, modulus):
    """Return the product of a row and a matrix with these rows, modulo the modulus."""
    total = sum([x * y for x, y in zip(row, packed_rows)])
    return [((total >> (FIELD * k)) & MASK) % modulus for k in range(len(row))]
