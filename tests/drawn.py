"""Atlases and places that several tests draw, and the values that every function must refuse."""

from tests.samples import (
    ODD_VALUES,
    linked_atlas,
    linking_edges,
    random_atlas,
    turning_atlas,
    winding_atlas,
)

# Values that are no places of the atlas E with the root map "e".
BAD_PLACES = ODD_VALUES + [
    ((0,) * 201, ("port", 0)),
    ((0,), ("slot", 0, 0)),
    ((1,), ("port", 0)),
    ((True,), ("port", 0)),
    ((False,), ("port", 0)),
    ((0,), ("node", True)),
    ((0,), ("node", False)),
    ([0], ("port", 0)),
    [(0,), ("port", 0)],
    ((0,), ("port", 2)),
    ((0,), ("port", 0), 0),
]
# Values that are neither None nor labels.
BAD_LABELS = [
    label
    for label in ODD_VALUES
    if label is not None and label not in ("e", "node")
] + ["abcdefghi", "x\n", "\nx", "X", "x y", " ", "x0", ["x"], ("x",), {"x": 1}, "78"]


def drawn_atlas(rng):
    """Return an atlas of any kind."""
    kind = rng.randrange(4)
    if kind == 0:
        return random_atlas(rng, most_maps=4, most_cost=rng.choice([1, 9, 1000000]))
    if kind == 1:
        return turning_atlas(rng)
    return linked_atlas(rng, most_slots=rng.choice([1, 2, 4]), most_cost=rng.choice([1, 3, 1000000]), most_ports=4)


def finite_atlas(rng, most_maps=4, most_slots=2, most_cost=3):
    """Return an atlas in which each map holds only later ones, so that all expansions are finite."""
    names = "abcdefgh"[: rng.randint(1, most_maps)]
    maps = []
    for k, name in enumerate(names):
        labels = tuple([rng.choice(["x", "y"]) for _ in range(rng.randint(0, 2))])
        later = names[k + 1 :]
        slots = tuple([rng.choice(later) for _ in range(rng.randint(0, most_slots))]) if later else ()
        maps.append((name, rng.randint(1, 3), labels, slots))
    return tuple([chart + (linking_edges(rng, maps, chart, most_cost),) for chart in maps])


def marked_winding_atlas(port=3, many=8):
    """Return a winding atlas in which one node has a label, behind a port of the last map: far down from the others.

    There is no way from port to port.
    """
    first, *others = winding_atlas(many)
    first = first[:4] + (tuple([edge for edge in first[4] if "slot" in (edge[0][0], edge[1][0])]),)
    name, ports, _, slots, edges = others.pop()
    edges = tuple(sorted(edges + ((("port", port), ("node", 0), 1),)))
    return (first, *others, (name, ports, ("x",), slots, edges))


def falling_atlas(rng, many=8):
    """Return an atlas in which ways lead down alone, from some ports to some ports, so that many sets of ports come."""
    names = "abcdefgh"[:many]
    maps = []
    for name in names:
        slots = tuple([rng.choice(names) for _ in range(rng.randint(1, 3))])
        pairs = [(("port", i), ("slot", s, rng.randrange(4))) for s in range(len(slots)) for i in range(4)]
        pairs = sorted(set(pairs + [(("port", rng.randrange(4)), ("node", 0))]))
        maps.append((name, 4, (rng.choice("xy"),), slots, tuple([pair + (1,) for pair in pairs])))
    return tuple(maps)
