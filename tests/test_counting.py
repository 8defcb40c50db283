"""The number of nodes at some depth, and this number modulo another one: [35] and [36]."""

import unittest
from random import Random

from slotmaps.counting import count_at, count_mod
from slotmaps.errors import BadAtlas, BadDepth, BadLabel, BadModulus, BadPlace, TooLarge, UnknownMap
from tests.drawn import BAD_LABELS, BAD_PLACES, drawn_atlas, falling_atlas, finite_atlas
from tests.expansion import copies
from tests.oracle import spine
from tests.samples import FULL, LOOP, ODD_VALUES, UP, B, E, linked_atlas, random_atlas, random_place
from tests.searches import costs_in, many_nodes

P0, P1 = ((), ("port", 0)), ((), ("port", 1))
MOST_MOD = 10**18
BAD_DEPTHS = [True, False, None, -1, -(10**399), "0", "", (), (0,), [], [0], {}, 10**399]
BAD_MODULI = [True, False, None, 0, -1, -7, 10**9 + 1, 10**399, "7", (), (7,), [7], {}]

# Each copy has two copies of the same map; a node in each can be reached.
TREE = (("t", 1, ("x", "y", "x"), ("t", "t"), (
    (("port", 0), ("node", 0), 1),
    (("port", 0), ("node", 1), 1),
    (("port", 0), ("slot", 0, 0), 1),
    (("port", 0), ("slot", 1, 0), 1),
)),)


# The number of copies at each depth grows as the Fibonacci numbers do.
RABBITS = (
    ("a", 1, ("x",), ("a", "b"), (
        (("port", 0), ("node", 0), 1), (("port", 0), ("slot", 0, 0), 1), (("port", 0), ("slot", 1, 0), 1),
    )),
    ("b", 1, ("y",), ("a",), ((("port", 0), ("node", 0), 1), (("port", 0), ("slot", 0, 0), 1))),
)


def ring_atlas(more=0, closed=0):
    """Return an atlas in which just 24 pairs, and some more, can be reached from port 0 of its map "r".

    Six maps form a ring, with ways down that turn by one port when they have gone around; the last one has a node
    behind port 2. The map "r" also holds so many copies with a port that can be reached, and so many without.
    """
    maps = []
    for k, name in enumerate("abcdef"):
        edges = [(("port", i), ("slot", 0, (i + k // 5) % 4), 1) for i in range(4)]
        edges += [(("port", 2), ("node", 0), 1)] if k == 5 else []
        maps.append((name, 4, ("x",) if k == 5 else (), ("abcdef"[(k + 1) % 6],), tuple(sorted(edges))))
    ways = [(("port", 0), ("slot", s, 0), 1) for s in range(1 + more)]
    maps.append(("r", 1, (), ("a",) + ("z",) * (more + closed), tuple(ways)))
    maps.append(("z", 1, ("y",), (), ()))
    return tuple(maps)


class CountTest(unittest.TestCase):
    def check(self, atlas, root, place, label, depth, expected):
        before = repr((atlas, place))
        for _ in range(2):
            self.assertEqual(repr(count_at(atlas, root, place, label, depth)), repr(expected))
        self.assertEqual(repr((atlas, place)), before)
        self.check_mod(atlas, root, place, label, depth, expected)

    def check_mod(self, atlas, root, place, label, depth, expected):
        """The number modulo any modulus is that of count_mod, unless there are too many pairs."""
        for modulus in (1, 2, 7, 10**9):
            try:
                found = count_mod(atlas, root, place, label, depth, modulus)
            except TooLarge:
                self.assertGreater(many_pairs(atlas, root, place), 24)
            else:
                self.assertEqual(repr(found), repr(expected % modulus))

    def test_example(self):
        self.check(E, "e", P0, "x", 9, 1)

    def test_no_nodes_and_no_such_label(self):
        for label in ("y", "abcdefgh", "e"):
            self.check(E, "e", P0, label, 3, 0)
        for depth in (0, 1, 2, 2000):
            self.check(B, "a", P0, None, depth, 0)
            self.check(B, "a", P0, "x", depth, 0)

    def test_the_place_itself(self):
        self.check(E, "e", ((), ("node", 0)), "x", 0, 1)
        self.check(E, "e", ((0, 0), ("node", 0)), None, 2, 1)
        self.check(UP, "u", ((1, 0), ("node", 1)), "y", 2, 1)
        self.check(UP, "u", ((1, 0), ("node", 1)), "x", 2, 0)
        self.check(UP, "u", ((1, 0), ("node", 1)), None, 1, 0)
        deep = ((0,) * 200, ("node", 0))
        self.check(E, "e", deep, "x", 200, 1)
        self.check(E, "e", deep, "x", 199, 0)
        self.check(E, "e", deep, "x", 2000, 1)

    def test_what_cannot_be_reached(self):
        for depth in (0, 1, 5, 2000):
            self.check(E, "e", P1, None, depth, 0)
        # Node 2 of each copy cannot be reached but as the place itself.
        self.check(TREE, "t", P0, "x", 0, 1)
        self.check(TREE, "t", ((), ("node", 2)), "x", 0, 1)
        self.check(TREE, "t", ((), ("node", 2)), "x", 1, 0)

    def test_every_label(self):
        for depth in (0, 1, 2, 10, 100):
            self.check(TREE, "t", P0, "x", depth, 2**depth)
            self.check(TREE, "t", P0, "y", depth, 2**depth)
            self.check(TREE, "t", P0, None, depth, 2 ** (depth + 1))

    def test_great_numbers(self):
        self.check(TREE, "t", P0, "x", 2000, 2**2000)
        self.check(TREE, "t", P0, None, 1999, 2**2000)
        four = (("f", 1, ("x",) * 8, ("f",) * 4, tuple(sorted(
            [(("port", 0), ("node", j), 1) for j in range(8)] + [(("port", 0), ("slot", s, 0), 1) for s in range(4)]
        ))),)
        self.check(four, "f", P0, "x", 2000, 8 * 4**2000)
        ones, twos = 1, 0
        for depth in range(300):
            if depth % 20 < 3:
                self.check(RABBITS, "a", P0, "x", depth, ones)
                self.check(RABBITS, "a", P0, "y", depth, twos)
                self.check(RABBITS, "a", P0, None, depth, ones + twos)
            ones, twos = ones + twos, ones

    def test_at_and_below_the_copies_counted(self):
        # From the port of the copy at (0, 1) no way leads up; its own copies count alone.
        for address in ((0,), (0, 1), (1,) * 200):
            for depth in (0, 1, 2, 3, 199, 200, 201, 205):
                many = 2 ** (depth - len(address)) if depth >= len(address) else 0
                self.check(TREE, "t", (address, ("port", 0)), "y", depth, many)
        # From a port of a copy of UP, ways lead up to all copies around and down into the slots beside.
        for depth in range(5):
            for address in ((0, 0), (0, 1), (0, 0, 0)):
                place = (address, ("port", 0))
                for label in ("x", "y", None):
                    self.check(UP, "u", place, label, depth, many_nodes(UP, "u", place, label, depth))

    def test_drawn_atlases(self):
        rng = Random(921)
        great = 0
        for _ in range(250):
            atlas = rng.choice([drawn_atlas, finite_atlas])(rng)
            root = rng.choice(atlas)[0]
            depth = 4 if max([len(chart[3]) for chart in atlas]) < 3 else 3
            place = random_place(rng, atlas, root, rng.randint(0, 5))
            for label in ("x", "y", None):
                expected = many_nodes(atlas, root, place, label, depth)
                self.check(atlas, root, place, label, depth, expected)
                great = max(great, expected)
            shallow = rng.randint(0, depth - 1)
            self.check(atlas, root, place, None, shallow, many_nodes(atlas, root, place, None, shallow))
        self.assertGreater(great, 100)

    def test_two_hundred_indexes(self):
        rng = Random(922)
        for _ in range(10):
            atlas = linked_atlas(rng, most_ports=4)
            root = rng.choice(atlas)[0]
            place = random_place(rng, atlas, root, 200)
            for depth in (0, 1, 2):
                self.check(atlas, root, place, None, depth, many_nodes(atlas, root, place, None, depth))
            for depth in (199, 200, 201, 400):
                self.check(atlas, root, place, "x", depth, count_at(atlas, root, place, "x", depth))

    def test_bad_depths(self):
        for value in BAD_DEPTHS + [2001, 2002, MOST_MOD]:
            with self.assertRaises(BadDepth):
                count_at(E, "e", P0, "x", value)
        for value in BAD_DEPTHS + [MOST_MOD + 1, MOST_MOD * 10]:
            for modulus in (7, None):
                with self.assertRaises(BadDepth):
                    count_mod(E, "e", P0, "x", value, modulus)

    def test_order_of_errors(self):
        for value in BAD_PLACES:
            with self.assertRaises(BadPlace):
                count_at(E, "e", value, 0, -1)
            with self.assertRaises(BadPlace):
                count_mod(E, "e", value, 0, -1, 0)
        for value in BAD_LABELS:
            with self.assertRaises(BadLabel):
                count_at(E, "e", P0, value, -1)
            with self.assertRaises(BadLabel):
                count_mod(E, "e", P0, value, -1, 0)
        for value in ODD_VALUES:
            with self.assertRaises(BadAtlas):
                count_at(value, "f", None, 0, -1)
            with self.assertRaises(BadAtlas):
                count_mod(value, "f", None, 0, -1, 0)
            if value != "e":
                with self.assertRaises(UnknownMap):
                    count_at(E, value, None, 0, -1)
                with self.assertRaises(UnknownMap):
                    count_mod(E, value, None, 0, -1, 0)


class CountModTest(unittest.TestCase):
    def check(self, atlas, root, place, label, depth, modulus, expected):
        before = repr((atlas, place))
        for _ in range(2):
            self.assertEqual(repr(count_mod(atlas, root, place, label, depth, modulus)), repr(expected))
        self.assertEqual(repr((atlas, place)), before)

    def test_example(self):
        self.check(E, "e", P0, None, MOST_MOD, 7, 1)

    def test_great_depths(self):
        for depth in (0, 1, 2, 63, 64, 10**9, MOST_MOD - 1, MOST_MOD):
            for modulus in (1, 2, 3, 997, 10**9 - 1, 10**9):
                self.check(TREE, "t", P0, "x", depth, modulus, pow(2, depth, modulus))
                self.check(TREE, "t", P0, None, depth, modulus, pow(2, depth + 1, modulus))
                self.check(E, "e", P1, None, depth, modulus, 0)
                self.check(E, "e", P0, "y", depth, modulus, 0)
                self.check(RABBITS, "a", P0, None, depth, modulus, fibonacci(depth + 1, modulus)[1])
                self.check(RABBITS, "a", P0, "x", depth, modulus, fibonacci(depth + 1, modulus)[0])

    def test_great_depths_from_deep_places(self):
        for length in (1, 199, 200):
            place = ((0,) * length, ("port", 0))
            for depth in (length, length + 1, length + 2, MOST_MOD):
                self.check(TREE, "t", place, "y", depth, 10**9, pow(2, depth - length, 10**9))
            self.check(TREE, "t", place, "y", length - 1, 10**9, 0)
            # Up to the root, and into all slots but the first: the copies of the spine are reached from below.
            place = ((0,) * length, ("node", 0))
            atlas = (("u", 1, ("x",), ("u", "u"), (
                (("node", 0), ("port", 0), 1),
                (("slot", 0, 0), ("node", 0), 1),
                (("slot", 0, 0), ("slot", 1, 0), 1),
            )),)
            for depth in (0, 1, length - 1, length, length + 1, MOST_MOD):
                self.check(atlas, "u", place, "x", depth, 10**9, 1 if depth <= length else 0)

    def test_one_copy_at_each_depth(self):
        for depth in list(range(60)) + [MOST_MOD - k for k in range(30)]:
            # The copy at this depth is of the map "f" after six, twelve .. levels; each round turns by one port.
            expected = 1 if depth % 6 == 0 and depth and (depth // 6 - 1) % 4 == 2 else 0
            self.check(ring_atlas(), "r", P0, "x", depth, 7, expected)
            self.check(ring_atlas(closed=2), "r", P0, None, depth, 10**9, expected)

    def test_same_as_count_at(self):
        rng = Random(931)
        counts = {True: 0, False: 0}
        for _ in range(300):
            if rng.random() < 0.5:
                atlas = falling_atlas(rng, rng.choice([2, 8, 8, 8]))
            else:
                atlas = rng.choice([random_atlas, linked_atlas])(rng, most_maps=rng.choice([1, 2, 3, 8]))
            root = rng.choice(atlas)[0]
            place = random_place(rng, atlas, root, rng.choice([0, 1, 2, 5, 200]))
            label = rng.choice([None, "x", "y"])
            depth = rng.choice([rng.randint(0, 10), rng.randint(0, 400), 2000])
            modulus = rng.choice([1, 2, rng.randint(1, 10**9), 10**9])
            great = many_pairs(atlas, root, place) > 24
            if great:
                with self.assertRaises(TooLarge):
                    count_mod(atlas, root, place, label, depth, modulus)
            else:
                expected = count_at(atlas, root, place, label, depth) % modulus
                self.check(atlas, root, place, label, depth, modulus, expected)
            counts[great] += 1
        self.assertGreater(min(counts.values()), 10)

    def test_number_of_pairs(self):
        for more, closed in ((0, 0), (0, 3), (1, 0), (3, 0), (1, 2)):
            atlas = ring_atlas(more, closed)
            # All copies of "z" that can be reached are one pair.
            self.assertEqual(many_pairs(atlas, "r", P0), 25 if more else 24)
            for depth in (0, 1, 6, 2000, MOST_MOD):
                for label in (None, "x", "y", "z"):
                    for modulus in (1, 10**9):
                        if more:
                            with self.assertRaises(TooLarge):
                                count_mod(atlas, "r", P0, label, depth, modulus)
                        else:
                            count_mod(atlas, "r", P0, label, depth, modulus)
            count_at(atlas, "r", P0, None, 2000)

    def test_copies_of_the_spine_are_not_among_the_pairs(self):
        # From these places the copies around have no port that can be reached, or are of the spine.
        for length in (1, 2, 6, 7, 24, 200):
            for i in range(4):
                place = ((0,) * length, ("port", i))
                self.assertEqual(many_pairs(ring_atlas(1), "r", place), 24)
                count_mod(ring_atlas(1), "r", place, "x", MOST_MOD, 10**9)
        # The pair (z, port 0) counts for the copy at (1,), not for that at (2,), which is the place's own.
        atlas = ring_atlas(2)
        self.assertEqual(many_pairs(atlas, "r", P0), 25)
        place = ((2,), ("port", 0))
        self.assertEqual(many_pairs(atlas, "r", place), 0)
        self.check(atlas, "r", place, None, MOST_MOD, 7, 0)

    def test_sets_of_ports(self):
        # Two sets of ports of one map are two pairs: from port 2 of the root both ports lead down, from port 0 one.
        atlas = (("m", 3, ("x",), ("m",), (
            (("port", 0), ("node", 0), 1),
            (("port", 0), ("slot", 0, 0), 1),
            (("port", 1), ("slot", 0, 1), 1),
            (("port", 2), ("slot", 0, 0), 1),
            (("port", 2), ("slot", 0, 1), 1),
        )),)
        for i, expected in ((0, 1), (1, 0), (2, 1)):
            self.check(atlas, "m", ((), ("port", i)), "x", MOST_MOD, 7, expected)
            self.assertEqual(many_pairs(atlas, "m", ((), ("port", i))), 1)

    def test_full_atlas(self):
        for chart in FULL:
            if many_pairs(FULL, chart[0], P0) > 24:
                with self.assertRaises(TooLarge):
                    count_mod(FULL, chart[0], P0, None, 0, 1)

    def test_bad_moduli(self):
        for value in BAD_MODULI:
            for atlas, root in ((E, "e"), (ring_atlas(1), "r")):
                for depth in (0, MOST_MOD):
                    with self.assertRaises(BadModulus):
                        count_mod(atlas, root, P0, None, depth, value)
        with self.assertRaises(BadDepth):
            count_mod(ring_atlas(1), "r", P0, None, MOST_MOD + 1, 0)
        with self.assertRaises(BadLabel):
            count_mod(ring_atlas(1), "r", P0, "X", 0, 1)
        with self.assertRaises(BadPlace):
            count_mod(ring_atlas(1), "r", None, "x", 0, 1)

    def test_loop(self):
        self.assertEqual(copies(LOOP, "o", 3)[(0, 0, 0)], LOOP[0])
        for depth in (0, 1, MOST_MOD):
            self.check(LOOP, "o", P0, "x", depth, 10**9, 1)
            self.check(LOOP, "o", ((0,) * 200, ("node", 0)), None, depth, 10**9, 1)


def fibonacci(n, modulus):
    """Return the Fibonacci numbers n and n + 1, modulo the modulus, by doubling."""
    if n == 0:
        return 0, 1 % modulus
    low, high = fibonacci(n // 2, modulus)
    even, odd = low * (2 * high - low) % modulus, (low * low + high * high) % modulus
    return (odd, (even + odd) % modulus) if n % 2 else (even, odd)


def many_pairs(atlas, root, place):
    """Return the number of pairs of the copies beside the spine of a place, found copy by copy."""
    maps = {chart[0]: chart for chart in atlas}
    around = spine(atlas, root, [place[0]])
    reached = costs_in(atlas, around, place)
    pending = []
    for address, chart in around.items():
        for s, name in enumerate(chart[3]):
            if address + (s,) not in around:
                ports = [i for i in range(maps[name][1]) if (address + (s,), ("port", i)) in reached]
                pending.append((name, tuple(ports)))
    pairs = {}
    while pending:
        name, ports = pending.pop()
        if not ports or (name, ports) in pairs:
            continue
        pairs[(name, ports)] = True
        reached = {}
        for i in ports:
            reached.update(costs_in(atlas, {(): maps[name]}, ((), ("port", i))))
        for s, inner in enumerate(maps[name][3]):
            inner_ports = [i for i in range(maps[inner][1]) if ((s,), ("port", i)) in reached]
            pending.append((inner, tuple(inner_ports)))
    return len(pairs)


if __name__ == "__main__":
    unittest.main()
