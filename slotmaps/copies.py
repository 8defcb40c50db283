"""Copies of the expansion by number, so that a search does not go through their addresses again and again."""


class Copies:
    """The copies around a place, and the copies that a search from there has come to."""

    def __init__(self, maps, root, address):
        self.exits = {name: exits_of(maps[name]) for name in maps}
        self.slots = {name: maps[name][3] for name in maps}
        self.names = [root]
        self.addresses = [()]
        self.around = [None]
        self.inner = [{}]
        for s in address:
            self.inside(self.last(), s)

    def last(self):
        """Return the number that was given last: at first that of the copy at the address."""
        return len(self.names) - 1

    def inside(self, number, s):
        """Return the number of the copy in a slot of a copy; it gets one now if it has none."""
        inner = self.inner[number]
        if s not in inner:
            inner[s] = len(self.names)
            self.names.append(self.slots[self.names[number]][s])
            self.addresses.append(self.addresses[number] + (s,))
            self.around.append(number)
            self.inner.append({})
        return inner[s]

    def leaving(self, number, point):
        """Return the steps that leave a place, as (number of the target's copy, target point, cost)."""
        steps = self.leaving_by(number, point)
        around = self.around[number]
        if around is not None and point[0] == "port":
            steps = steps + self.leaving_by(around, ("slot", self.addresses[number][-1], point[1]))
        return steps

    def leaving_by(self, number, point):
        """Return the steps that leave a point of a copy by edges of this copy."""
        name = self.names[number]
        return [
            (number if s is None else self.inside(number, s), target, cost)
            for s, target, cost in self.exits[name].get(point, [])
        ]


def exits_of(chart):
    """Return a dict from the points that edges of a map leave to their (slot or None, target point there, cost)."""
    exits = {}
    for source, target, cost in chart[4]:
        if target[0] == "slot":
            way_out = (target[1], ("port", target[2]), cost)
        else:
            way_out = (None, target, cost)
        exits.setdefault(source, []).append(way_out)
    return exits
