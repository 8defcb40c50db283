"""Copies of the expansion by number, so that a search does not go through their addresses again and again."""


class Copies:
    """The root copy, with the number 0, and the copies that were come to; each has a number after that around it."""

    def __init__(self, maps, root):
        self.maps = maps
        self.names = [root]
        self.addresses = [()]
        self.around = [None]
        self.inner = [{}]
        self.exits = {}

    def inside(self, number, s):
        """Return the number of the copy in a slot of a copy; it gets one now if it has none."""
        inner = self.inner[number]
        if s not in inner:
            inner[s] = len(self.names)
            self.names.append(self.maps[self.names[number]][3][s])
            self.addresses.append(self.addresses[number] + (s,))
            self.around.append(number)
            self.inner.append({})
        return inner[s]

    def along(self, address):
        """Return the numbers of the copies around and at an address, from the root down."""
        number = 0
        numbers = [number]
        for s in address:
            number = self.inside(number, s)
            numbers.append(number)
        return numbers

    def leaving(self, number, point):
        """Return the steps that leave a place, as (number of the target's copy, target point, cost)."""
        steps = self.leaving_by(number, point)
        around = self.around[number]
        if around is not None and point[0] == "port":
            steps = steps + self.leaving_by(around, ("slot", self.addresses[number][-1], point[1]))
        return steps

    def leaving_by(self, number, point):
        """Return the steps that leave a point of a copy by edges of this copy."""
        name = self.names[number]
        if name not in self.exits:
            self.exits[name] = exits_of(self.maps[name])
        return [
            (number if s is None else self.inside(number, s), target, cost)
            for s, target, cost in self.exits[name].get(point, [])
        ]


def exits_of(chart):
    """Return a dict from the points that edges of a map leave to their (slot or None, target point there, cost)."""
    exits = {}
    for source, target, cost in chart[4]:
        if target[0] == "slot":
            way_out = (target[1], ("port", target[2]), cost)
        else:
            way_out = (None, target, cost)
        exits.setdefault(source, []).append(way_out)
    return exits
