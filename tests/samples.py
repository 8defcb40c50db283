"""Values that the tests share: atlases, values of any kind, and values with one part changed."""

from random import Random

E = (
    (
        "e",
        2,
        ("x",),
        ("e",),
        (
            (("node", 0), ("port", 1), 5),
            (("node", 0), ("slot", 0, 0), 1),
            (("port", 0), ("node", 0), 1),
            (("slot", 0, 1), ("port", 1), 1),
        ),
    ),
)
B = (
    (
        "a",
        2,
        (),
        ("b",),
        (
            (("port", 0), ("port", 1), 9),
            (("port", 0), ("slot", 0, 0), 1),
            (("slot", 0, 1), ("port", 1), 1),
        ),
    ),
    ("b", 2, (), (), ((("port", 0), ("port", 1), 3),)),
)
K = [
    ("e", ("port", 0), ("port", 1), (("edge", 2), ("edge", 0))),
    ("e", ("port", 0), ("port", 1), (("edge", 2), ("edge", 1), ("call", 0, 0), ("edge", 3))),
]

# Values of every kind that a caller may pass; none of them is an atlas, a place, an address or a cost.
ODD_VALUES = [
    None,
    True,
    False,
    -1,
    -(10**399),
    "",
    "e",
    "node",
    "a" * 5000,
    "a\n",
    "E",
    [],
    [()],
    [0],
    {},
    {"e": 1},
    {(): ()},
    {0: 0, None: [], "a": {}},
    ((),),
    ([],),
    ({},),
    (None,),
    (True,),
    (-1,),
    ("e",),
    ("e", 2),
    ("e", 2, (), (), ()),
    ((), ()),
    ((), None),
    ((), []),
    ([], ("port", 0)),
    ((), ["port", 0]),
    ((), ("port",)),
    ((), ("port", True)),
    ((), ("port", -1)),
    ((), ("port", "0")),
    ((), ("port", [])),
    ((), ("port", {})),
    ((), ([], 0)),
    ((), ({}, 0)),
    ((), (None, 0)),
    ((), ("slot", 0, 0)),
    ((), ("port", 0), 0),
    ((True,), ("port", 0)),
    (("0",), ("port", 0)),
    (([],), ("port", 0)),
    (({},), ("port", 0)),
    ((None,), ("port", 0)),
    (((0,),), ("port", 0)),
    ((10**399,), ("port", 0)),
    ("", ("port", 0)),
    ({}, ("port", 0)),
    K,
    K[0],
    tuple(K),
    list(E),
    [list(E[0])],
    (list(E[0]),),
    ((((((((((((((),),),),),),),),),),),),),),
    [[[[[[[[[[[[[[]]]]]]]]]]]]]],
    tuple([None] * 20000),
    [0] * 20000,
    {number: number for number in range(9000)},
]


def random_value(rng, level=0):
    """Return a value of any kind that a caller may pass."""
    kind = rng.randrange(9 if level < 5 else 6)
    many = rng.choice([0, 1, 2, 3, 5])
    if kind == 0:
        return rng.choice([None, True, False])
    if kind in (1, 2):
        return rng.choice([0, 1, 2, 3, 4, 8, 9, -1, 41, 1000000, 1000001, 10**399])
    if kind in (3, 4, 5):
        return rng.choice(["node", "port", "slot", "a", "e", "x", "", "a\n", "A", "abcdefgh", "abcdefghi", "0"])
    if kind == 6:
        return tuple([random_value(rng, level + 1) for _ in range(many)])
    if kind == 7:
        return [random_value(rng, level + 1) for _ in range(many)]
    return {rng.choice([None, True, 7, "k", (), (1, "z")]): random_value(rng, level + 1) for _ in range(many)}


def with_part_changed(value, rng):
    """Return the value with one part, itself included, replaced, removed, doubled or of another kind."""
    if isinstance(value, tuple) and value and rng.random() < 0.85:
        k = rng.randrange(len(value))
        change = rng.random()
        if change < 0.05:
            return value[:k] + value[k + 1 :]
        if change < 0.10:
            return value[:k] + (value[k],) + value[k:]
        if change < 0.15 and k:
            return value[: k - 1] + (value[k], value[k - 1]) + value[k + 1 :]
        return value[:k] + (with_part_changed(value[k], rng),) + value[k + 1 :]
    if isinstance(value, tuple) and rng.random() < 0.3:
        return list(value)
    if isinstance(value, int) and rng.random() < 0.6:
        return rng.choice([value + 1, value - 1, bool(value), str(value)])
    if isinstance(value, str) and rng.random() < 0.6:
        return rng.choice([value + "\n", value.upper(), value[1:], value + "abcdefgh", [value], value + "a"])
    return random_value(rng)


def points_of(atlas, chart):
    """Return all points of a map, in ascending order."""
    ports = {other[0]: other[1] for other in atlas}
    inner = [("slot", s, i) for s, name in enumerate(chart[3]) for i in range(ports[name])]
    return [("node", j) for j in range(len(chart[2]))] + [("port", i) for i in range(chart[1])] + inner


def random_atlas(rng, most_maps=8, most_slots=4, most_cost=9):
    """Return an atlas of any shape within the bounds."""
    letters = "abcdefgh"
    names = sorted(rng.sample([a + b for a in letters for b in letters], rng.randint(1, most_maps)))
    maps = []
    for name in names:
        labels = tuple([rng.choice(["x", "y", "longword"]) for _ in range(rng.randint(0, 8))])
        slots = tuple([rng.choice(names) for _ in range(rng.randint(0, most_slots))])
        maps.append((name, rng.randint(1, 4), labels, slots))
    return tuple([chart + (random_edges(rng, maps, chart, most_cost),) for chart in maps])


def random_edges(rng, maps, chart, most_cost):
    """Return edges for a map."""
    points = points_of(maps, chart)
    pairs = [(source, target) for source in points for target in points if source != target]
    chosen = sorted(rng.sample(pairs, min(len(pairs), rng.randint(0, 40))))
    return tuple([pair + (rng.randint(1, most_cost),) for pair in chosen])


def full_atlas():
    """Return an atlas that reaches every bound: of maps, letters, ports, nodes, slots, edges and costs."""
    rng = Random(5)
    names = ["abcdefg" + letter for letter in "stuvwxyz"]
    maps = [(name, 4, ("labelxyz",) * 8, (name, names[0], names[7], name)) for name in names]
    made = []
    for chart in maps:
        points = points_of(maps, chart)
        pairs = [(source, target) for source in points for target in points if source != target]
        pairs = sorted(rng.sample(pairs, 40))
        made.append(chart + (tuple([pair + (rng.choice([1, 1000000]),) for pair in pairs]),))
    return tuple(made)


FULL = full_atlas()
