"""Least costs of paths between places that may not use all copies."""

from slotmaps.checks import is_count
from slotmaps.copies import Copies
from slotmaps.crossings import Crossing
from slotmaps.errors import BadAddress, BadDepth
from slotmaps.insides import Insides
from slotmaps.kinds import Kinds
from slotmaps.places import checked_places, names_along, passed_copy
from slotmaps.tables import tables_by_depth

MOST_CLOSED = 20


def cost_to_depth(atlas, root, first, second, depth):
    """Return the least cost of a path that uses copies with addresses of at most so many indexes, or None."""
    maps = checked_places(atlas, root, first, second)
    if not is_count(depth):
        raise BadDepth()
    shallow = ShallowCopies(maps, tables_by_depth(maps, depth - 1))
    return shallow.cost(root, first, second, depth)


def levels_between(atlas, root, first, second):
    """Return (depth, cost) for each depth that makes the least cost between the places lower."""
    maps = checked_places(atlas, root, first, second)
    if first == second:
        return [(0, 0)]
    shallow = ShallowCopies(maps, tables_by_depth(maps, None))
    deeper = max(len(first[0]), len(second[0]))
    # Below this depth no copy can be used that has the deeper place; beyond the last one nothing changes.
    depth = max(deeper - 1, 0)
    least = shallow.cost(root, first, second, deeper + len(shallow.tables))
    levels = []
    before = None
    while before != least:
        cost = shallow.cost(root, first, second, depth)
        if cost != before:
            levels.append((depth, cost))
            before = cost
        depth += 1
    return levels


class ShallowCopies:
    """The copies down to some depth; the tables are those of the depths 0, 1, 2 and so on, as long as they change."""

    def __init__(self, maps, tables):
        self.maps = maps
        self.tables = tables
        self.kinds = Kinds(maps)
        self.known = {}

    def cost(self, root, first, second, depth):
        """Return the least cost of a path that uses copies down to this depth, or None if there is none."""
        first_kinds = self.kinds_along(root, first[0], depth)
        second_kinds = self.kinds_along(root, second[0], depth)
        return Crossing(self.kinds, first, second, first_kinds, second_kinds).cost()

    def kinds_along(self, root, address, depth):
        """Return the kinds of the copies around and at an address, from the root down."""
        names = names_along(self.maps, root, address)
        return [self.kind_of(name, depth - level) for level, name in enumerate(names)]

    def kind_of(self, name, levels):
        """Return the kind of a copy of a map with so many levels below it; with less than 0 it may not be used."""
        # Beyond some depth the tables are the last ones.
        key = (name, max(-1, min(levels, len(self.tables))))
        if key not in self.known:
            self.known[key] = self.kinds.number(name, self.slot_tables(name, key[1]))
        return self.known[key]

    def slot_tables(self, name, levels):
        """Return the tables of the slots of a copy of a map with so many levels below it."""
        slots = self.maps[name][3]
        if levels < 0:
            return None
        if levels == 0:
            return (None,) * len(slots)
        return tuple([self.tables[levels - 1][inner] for inner in slots])


def cost_avoiding(atlas, root, first, second, closed):
    """Return the least cost of a path that uses none of the copies at some addresses and inside them, or None."""
    maps = checked_places(atlas, root, first, second)
    if not is_closed_list(maps, root, closed):
        raise BadAddress()
    open_copies = OpenCopies(maps, root, closed)
    return open_copies.cost(first, second)


def is_closed_list(maps, root, value):
    """Return whether the value is a list of at most so many addresses of copies."""
    if not isinstance(value, list) or len(value) > MOST_CLOSED:
        return False
    return all([passed_copy(maps, root, item) is not None for item in value])


class OpenCopies:
    """The copies of an expansion of which some are closed, with all copies inside them."""

    def __init__(self, maps, root, closed):
        self.maps = maps
        self.tables = Insides(maps).tables
        self.kinds = Kinds(maps)
        self.known = {}
        self.copies = Copies(maps, root)
        self.closed = {self.copies.along(address)[-1]: True for address in closed}
        self.around = self.kinds_around()

    def kinds_around(self):
        """Return a dict from the numbers of the closed copies, and of those around them, to their kinds."""
        around = {}
        # The kind of a copy rests on those of the copies in its slots, which have greater numbers.
        for number in reversed(range(len(self.copies.names))):
            name = self.copies.names[number]
            if number in self.closed:
                around[number] = self.kinds.number(name, None)
            else:
                inner = self.copies.inner[number]
                around[number] = self.kind_of(name, tuple([(s, around[inside]) for s, inside in inner.items()]))
        return around

    def kind_of(self, name, inner):
        """Return the kind of a copy of a map that is not closed, with (slot, kind) for slots of kinds of their own."""
        key = (name, inner)
        if key not in self.known:
            tables = [self.tables[inside] for inside in self.maps[name][3]]
            for s, kind in inner:
                tables[s] = self.kinds.port_table(kind)
            self.known[key] = self.kinds.number(name, tuple(tables))
        return self.known[key]

    def cost(self, first, second):
        """Return the least cost of a path that uses open copies alone, or None if there is none."""
        first_kinds = self.kinds_along(first[0])
        second_kinds = self.kinds_along(second[0])
        return Crossing(self.kinds, first, second, first_kinds, second_kinds).cost()

    def kinds_along(self, address):
        """Return the kinds of the copies around and at an address, from the root down."""
        kinds = []
        is_open = True
        for number in self.copies.along(address):
            name = self.copies.names[number]
            is_open = is_open and number not in self.closed
            if not is_open:
                kinds.append(self.kinds.number(name, None))
            elif number in self.around:
                kinds.append(self.around[number])
            else:
                # A copy that is not around a closed one has no closed copy inside.
                kinds.append(self.kind_of(name, ()))
        return kinds
