"""Costs of points of a copy, apart from the least of them.

Around a deep place the same costs often come again and again, but for what all of them have in common. With a shape for
these costs, what was worked out for one copy serves all others that have it.
"""


class Shape:
    """Costs of points of copies of some kind, less the least of them."""

    def __init__(self, kind, costs):
        self.kind = kind
        self.costs = costs


class Shapes:
    """The shapes that were found: one alone for equal costs, so that shapes are keys by themselves."""

    def __init__(self):
        self.known = {}

    def shaped(self, kind, costs):
        """Return (base, shape) for the costs of points of a copy of this kind; the base is the least of them."""
        base = min(costs.values(), default=0)
        less = {point: cost - base for point, cost in costs.items()}
        key = (kind, tuple(less.items()))
        if key not in self.known:
            self.known[key] = Shape(kind, less)
        return (base, self.known[key])
