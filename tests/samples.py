"""Values that the tests share: atlases, values of any kind, and values with one part changed."""

from random import Random

E = (
    (
        "e",
        2,
        ("x",),
        ("e",),
        (
            (("node", 0), ("port", 1), 5),
            (("node", 0), ("slot", 0, 0), 1),
            (("port", 0), ("node", 0), 1),
            (("slot", 0, 1), ("port", 1), 1),
        ),
    ),
)
B = (
    (
        "a",
        2,
        (),
        ("b",),
        (
            (("port", 0), ("port", 1), 9),
            (("port", 0), ("slot", 0, 0), 1),
            (("slot", 0, 1), ("port", 1), 1),
        ),
    ),
    ("b", 2, (), (), ((("port", 0), ("port", 1), 3),)),
)
K = [
    ("e", ("port", 0), ("port", 1), (("edge", 2), ("edge", 0))),
    ("e", ("port", 0), ("port", 1), (("edge", 2), ("edge", 1), ("call", 0, 0), ("edge", 3))),
]

# Values of every kind that a caller may pass; none of them is an atlas, a place, an address or a cost.
ODD_VALUES = [
    None,
    True,
    False,
    -1,
    -(10**399),
    "",
    "e",
    "node",
    "a" * 5000,
    "a\n",
    "E",
    [],
    [()],
    [0],
    {},
    {"e": 1},
    {(): ()},
    {0: 0, None: [], "a": {}},
    ((),),
    ([],),
    ({},),
    (None,),
    (True,),
    (-1,),
    ("e",),
    ("e", 2),
    ("e", 2, (), (), ()),
    ((), ()),
    ((), None),
    ((), []),
    ([], ("port", 0)),
    ((), ["port", 0]),
    ((), ("port",)),
    ((), ("port", True)),
    ((), ("port", -1)),
    ((), ("port", "0")),
    ((), ("port", [])),
    ((), ("port", {})),
    ((), ([], 0)),
    ((), ({}, 0)),
    ((), (None, 0)),
    ((), ("slot", 0, 0)),
    ((), ("port", 0), 0),
    ((True,), ("port", 0)),
    (("0",), ("port", 0)),
    (([],), ("port", 0)),
    (({},), ("port", 0)),
    ((None,), ("port", 0)),
    (((0,),), ("port", 0)),
    ((10**399,), ("port", 0)),
    ("", ("port", 0)),
    ({}, ("port", 0)),
    K,
    K[0],
    tuple(K),
    list(E),
    [list(E[0])],
    (list(E[0]),),
    ((((((((((((((),),),),),),),),),),),),),),
    [[[[[[[[[[[[[[]]]]]]]]]]]]]],
    tuple([None] * 20000),
    [0] * 20000,
    {number: number for number in range(9000)},
]


def random_value(rng, level=0):
    """Return a value of any kind that a caller may pass."""
    kind = rng.randrange(9 if level < 5 else 6)
    many = rng.choice([0, 1, 2, 3, 5])
    if kind == 0:
        return rng.choice([None, True, False])
    if kind in (1, 2):
        return rng.choice([0, 1, 2, 3, 4, 8, 9, -1, 41, 1000000, 1000001, 10**399])
    if kind in (3, 4, 5):
        return rng.choice(["node", "port", "slot", "a", "e", "x", "", "a\n", "A", "abcdefgh", "abcdefghi", "0"])
    if kind == 6:
        return tuple([random_value(rng, level + 1) for _ in range(many)])
    if kind == 7:
        return [random_value(rng, level + 1) for _ in range(many)]
    return {rng.choice([None, True, 7, "k", (), (1, "z")]): random_value(rng, level + 1) for _ in range(many)}


def with_part_changed(value, rng):
    """Return the value with one part, itself included, replaced, removed, doubled or of another kind."""
    if isinstance(value, tuple) and value and rng.random() < 0.85:
        k = rng.randrange(len(value))
        change = rng.random()
        if change < 0.05:
            return value[:k] + value[k + 1 :]
        if change < 0.10:
            return value[:k] + (value[k],) + value[k:]
        if change < 0.15 and k:
            return value[: k - 1] + (value[k], value[k - 1]) + value[k + 1 :]
        return value[:k] + (with_part_changed(value[k], rng),) + value[k + 1 :]
    if isinstance(value, tuple) and rng.random() < 0.3:
        return list(value)
    if isinstance(value, int) and rng.random() < 0.6:
        return rng.choice([value + 1, value - 1, bool(value), str(value)])
    if isinstance(value, str) and rng.random() < 0.6:
        return rng.choice([value + "\n", value.upper(), value[1:], value + "abcdefgh", [value], value + "a"])
    return random_value(rng)


def points_of(atlas, chart):
    """Return all points of a map, in ascending order."""
    ports = {other[0]: other[1] for other in atlas}
    inner = [("slot", s, i) for s, name in enumerate(chart[3]) for i in range(ports[name])]
    return [("node", j) for j in range(len(chart[2]))] + [("port", i) for i in range(chart[1])] + inner


def random_atlas(rng, most_maps=8, most_slots=4, most_cost=9):
    """Return an atlas of any shape within the bounds."""
    letters = "abcdefgh"
    names = sorted(rng.sample([a + b for a in letters for b in letters], rng.randint(1, most_maps)))
    maps = []
    for name in names:
        labels = tuple([rng.choice(["x", "y", "longword"]) for _ in range(rng.randint(0, 8))])
        slots = tuple([rng.choice(names) for _ in range(rng.randint(0, most_slots))])
        maps.append((name, rng.randint(1, 4), labels, slots))
    return tuple([chart + (random_edges(rng, maps, chart, most_cost),) for chart in maps])


def random_edges(rng, maps, chart, most_cost):
    """Return edges for a map."""
    points = points_of(maps, chart)
    pairs = [(source, target) for source in points for target in points if source != target]
    chosen = sorted(rng.sample(pairs, min(len(pairs), rng.randint(0, 40))))
    return tuple([pair + (rng.randint(1, most_cost),) for pair in chosen])


def full_atlas():
    """Return an atlas that reaches every bound: of maps, letters, ports, nodes, slots, edges and costs."""
    rng = Random(5)
    names = ["abcdefg" + letter for letter in "stuvwxyz"]
    maps = [(name, 4, ("labelxyz",) * 8, (name, names[0], names[7], name)) for name in names]
    made = []
    for chart in maps:
        points = points_of(maps, chart)
        pairs = [(source, target) for source in points for target in points if source != target]
        pairs = sorted(rng.sample(pairs, 40))
        made.append(chart + (tuple([pair + (rng.choice([1, 1000000]),) for pair in pairs]),))
    return tuple(made)


FULL = full_atlas()


def linked_atlas(rng, most_maps=4, most_slots=2, most_cost=3, most_ports=3, most_nodes=2):
    """Return an atlas of few points and many edges, so that most ports can be reached from one another."""
    names = sorted(rng.sample(["a", "b", "c", "dd", "eee", "f", "gg", "h"], rng.randint(1, most_maps)))
    maps = []
    for name in names:
        labels = tuple([rng.choice(["x", "y"]) for _ in range(rng.randint(0, most_nodes))])
        slots = tuple([rng.choice(names) for _ in range(rng.randint(0, most_slots))])
        maps.append((name, rng.randint(1, most_ports), labels, slots))
    return tuple([chart + (linking_edges(rng, maps, chart, most_cost),) for chart in maps])


def linking_edges(rng, maps, chart, most_cost):
    """Return edges for a map, mostly between its ports and its slots."""
    points = points_of(maps, chart)
    pairs = [(source, target) for source in points for target in points if source != target]
    # Few edges lead from port to port, so that paths lead through the copies in the slots.
    likely = [pair for pair in pairs if {pair[0][0], pair[1][0]} != {"port"} or rng.random() < 0.2]
    chosen = sorted(rng.sample(likely, min(len(likely), rng.randint(len(points), 2 * len(points) + 1), 40)))
    return tuple([pair + (rng.randint(1, most_cost),) for pair in chosen])


def winding_atlas(many=8):
    """Return an atlas of maps in a ring, with one slot each: a way turns by one port when it has gone around."""
    names = "abcdefgh"[:many]
    maps = []
    for k, name in enumerate(names):
        turn = 1 if k == many - 1 else 0
        edges = [(("port", i), ("slot", 0, (i + turn) % 4), 1) for i in range(4)]
        edges += [(("slot", 0, (i + turn) % 4), ("port", i), 1) for i in range(4)]
        edges += [(("port", 0), ("port", 1), 1)] if k == 0 else []
        maps.append((name, 4, (), (names[(k + 1) % many],), tuple(sorted(edges))))
    return tuple(maps)


# A map with ways from its port down and up again, so that parts may call one another as often as is asked for.
LOOP = (
    (
        "o",
        1,
        ("x",),
        ("o",),
        (
            (("node", 0), ("port", 0), 2),
            (("port", 0), ("node", 0), 3),
            (("port", 0), ("slot", 0, 0), 5),
            (("slot", 0, 0), ("port", 0), 7),
        ),
    ),
)
PORT = ("port", 0)
SLOT = ("slot", 0, 0)


def loop_part(items):
    """Return a part of the map of LOOP from its port to its port."""
    return ("o", PORT, PORT, tuple(items))


def loop_tower(many):
    """Return many parts of LOOP, each with 198 calls of the one before it, and their numbers of steps."""
    parts = [loop_part([("edge", 1), ("edge", 0)])]
    steps = [2]
    for k in range(1, many):
        parts.append(loop_part([("edge", 2)] + [("call", 0, k - 1)] * 198 + [("edge", 3)]))
        steps.append(198 * steps[-1] + 2)
    return parts, steps


def loop_route(many):
    """Return a route of LOOP of exactly so many steps, from the slot's port to itself, or to the port if many is odd."""
    levels = 1
    while loop_tower(levels)[1][-1] < many:
        levels += 1
    parts, steps = loop_tower(levels)
    calls = []
    left = many - many % 2
    for k in reversed(range(levels)):
        times = min(198, max(0, (left - 2) // steps[k]))
        if times:
            parts.append(loop_part([("edge", 2)] + [("call", 0, k)] * times + [("edge", 3)]))
            calls.append(("call", 0, len(parts) - 1))
            left -= times * steps[k] + 2
    # What is left is even and small; two steps at a time are made by the first part.
    calls += [("call", 0, 0)] * (left // 2)
    if many % 2:
        return parts + [("o", SLOT, PORT, tuple(calls) + (("edge", 3),))]
    return parts + [("o", SLOT, SLOT, tuple(calls))]


def loop_chain(many):
    """Return a route of LOOP of so many parts, each with a call of the one before it."""
    parts = [loop_part([("edge", 1), ("edge", 0)])]
    for k in range(1, many):
        parts.append(loop_part([("edge", 2), ("call", 0, k - 1), ("edge", 3)]))
    return parts


def turning_atlas(rng, many=4, most_cost=1000000):
    """Return an atlas in which ways from port to port are cheap deep down: each map has dear edges and cheap slots."""
    names = "abcdefgh"[:many]
    maps = []
    for name in names:
        slots = tuple([rng.choice(names) for _ in range(rng.randint(1, 2))])
        edges = {}
        for s in range(len(slots)):
            order = rng.sample(range(4), 4)
            for i in rng.sample(range(4), rng.randint(2, 4)):
                edges[(("port", i), ("slot", s, order[i]))] = rng.randint(1, 3)
                edges[(("slot", s, order[i]), ("port", i))] = rng.randint(1, 3)
        for _ in range(rng.randint(1, 3)):
            i, j = rng.sample(range(4), 2)
            edges[(("port", i), ("port", j))] = rng.randint(1, most_cost)
        maps.append((name, 4, (), slots, tuple([pair + (edges[pair],) for pair in sorted(edges)])))
    return tuple(maps)


def walked_items(rng, atlas, parts, name, start, many):
    """Return (items, end) of a walk of at most so many items by edges and by calls of the parts, for a new part."""
    chart = [chart for chart in atlas if chart[0] == name][0]
    here = start
    items = []
    while len(items) < many:
        moves = [(("edge", e), edge[1]) for e, edge in enumerate(chart[4]) if edge[0] == here]
        if here[0] == "slot":
            for p, (called, first, last, _) in enumerate(parts):
                if called == chart[3][here[1]] and first == ("port", here[2]) and last[0] == "port":
                    moves.append((("call", here[1], p), ("slot", here[1], last[1])))
        if not moves:
            break
        item, here = rng.choice(moves)
        items.append(item)
    return items, here


def random_route(rng, atlas, parts=6, items=6):
    """Return a route of random parts: most lead from port to port, the last one from any point to any other."""
    made = []
    while len(made) < parts:
        chart = rng.choice(atlas)
        start = ("port", rng.randrange(chart[1]))
        if len(made) == parts - 1:
            start = rng.choice(points_of(atlas, chart))
        walk, end = walked_items(rng, atlas, made, chart[0], start, rng.randint(0, items))
        if end[0] != "port" and len(made) < parts - 1:
            # A part that ends elsewhere cannot be called, so it is mostly tried again.
            if rng.random() < 0.9:
                continue
        made.append((chart[0], start, end, tuple(walk)))
    return made


def random_place(rng, atlas, root, length):
    """Return a place at an address of so many indexes, or fewer if there is no slot."""
    maps = {chart[0]: chart for chart in atlas}
    address, name = (), root
    while len(address) < length and maps[name][3]:
        s = rng.randrange(len(maps[name][3]))
        address, name = address + (s,), maps[name][3][s]
    return address, rng.choice([point for point in points_of(atlas, maps[name]) if point[0] != "slot"])


def random_places(rng, atlas, root, length):
    """Return two places: in one copy, in copies inside one another, or beside one another."""
    first = random_place(rng, atlas, root, rng.randint(0, length))
    second = random_place(rng, atlas, root, rng.randint(0, length))
    if rng.random() < 0.6:
        # The second place comes to lie under a prefix of the address of the first.
        address = first[0][: rng.randint(0, len(first[0]))]
        name = root
        for s in address:
            name = [chart for chart in atlas if chart[0] == name][0][3][s]
        inner = random_place(rng, atlas, name, rng.randint(0, max(0, length - len(address))))
        second = address + inner[0], inner[1]
    return (first, second) if rng.random() < 0.5 else (second, first)


# The way from port 0 to port 1 leads up and down again: only the copy around joins the two ports.
UP = (
    (
        "u",
        2,
        ("x", "y"),
        ("u", "u"),
        (
            (("node", 0), ("port", 0), 1),
            (("port", 0), ("slot", 0, 0), 1),
            (("port", 1), ("node", 1), 1),
            (("slot", 0, 0), ("port", 0), 1),
            (("slot", 0, 0), ("slot", 1, 1), 4),
        ),
    ),
)
