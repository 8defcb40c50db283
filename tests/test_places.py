"""Copies and places: [11] and [12]."""

import unittest
from random import Random

from slotmaps.errors import BadAddress
from slotmaps.places import is_place, map_at
from tests.expansion import copies, places_of
from tests.samples import FULL, ODD_VALUES, B, E, K, random_atlas, random_value, with_part_changed

# One map without slots, one with one, one with three; each has its own numbers of ports and nodes.
TREE = (
    ("leaf", 1, ("x", "y"), (), ()),
    ("long", 3, (), ("long",), ()),
    ("tree", 2, ("x", "x", "x"), ("leaf", "tree", "long"), ()),
)


def random_address(rng, atlas, root, length):
    """Return an address of so many indexes, or fewer if there is no slot."""
    maps = {chart[0]: chart for chart in atlas}
    address, name = (), root
    while len(address) < length and maps[name][3]:
        s = rng.randrange(len(maps[name][3]))
        address, name = address + (s,), maps[name][3][s]
    return address, name


class MapAtTest(unittest.TestCase):
    def check(self, atlas, root, address, name):
        before = repr((atlas, root, address))
        self.assertEqual(map_at(atlas, root, address), name)
        self.assertEqual(map_at(atlas, root, address), name)
        self.assertEqual(repr((atlas, root, address)), before)

    def check_bad(self, atlas, root, value):
        before = repr(value)
        with self.assertRaises(BadAddress) as caught:
            map_at(atlas, root, value)
        self.assertIs(type(caught.exception), BadAddress)
        self.assertEqual(repr(value), before)

    def test_example(self):
        self.check(E, "e", (0, 0), "e")

    def test_root(self):
        for atlas in (E, B, TREE, FULL):
            for chart in atlas:
                self.check(atlas, chart[0], (), chart[0])

    def test_some_indexes(self):
        self.check(B, "a", (0,), "b")
        self.check(TREE, "tree", (0,), "leaf")
        self.check(TREE, "tree", (1, 1, 2), "long")
        self.check(TREE, "tree", (1, 2, 0, 0), "long")
        self.check(TREE, "tree", (1, 1, 1, 0), "leaf")

    def test_every_copy(self):
        rng = Random(11)
        for _ in range(40):
            atlas = random_atlas(rng)
            root = rng.choice(atlas)[0]
            for address, chart in copies(atlas, root, 3).items():
                self.assertEqual(map_at(atlas, root, address), chart[0])

    def test_one_index_more_than_there_are_slots(self):
        self.check_bad(E, "e", (1,))
        self.check_bad(E, "e", (0, 1))
        self.check_bad(B, "a", (1,))
        self.check_bad(B, "a", (0, 0))
        self.check_bad(B, "b", (0,))
        self.check_bad(TREE, "tree", (3,))
        self.check_bad(TREE, "tree", (2, 1))
        self.check_bad(TREE, "tree", (0, 0))

    def test_two_hundred_indexes(self):
        self.check(E, "e", (0,) * 200, "e")
        self.check(TREE, "tree", (1,) * 199 + (0,), "leaf")
        self.check(TREE, "tree", (1,) * 150 + (2,) + (0,) * 49, "long")
        for length in (201, 202, 5000):
            self.check_bad(E, "e", (0,) * length)
            self.check_bad(TREE, "tree", (1,) * length)
        self.check_bad(TREE, "tree", (1,) * 200 + (0,))

    def test_an_index_changed(self):
        rng = Random(12)
        for length in (1, 2, 7, 199, 200):
            address, _ = random_address(rng, FULL, FULL[2][0], length)
            for at in {0, length // 2, length - 1}:
                for value in (4, -1, -4, True, False, None, "0", "", (0,), [0], (), {}, 10**399, -(10**399)):
                    self.check_bad(FULL, FULL[2][0], address[:at] + (value,) + address[at + 1 :])

    def test_lists_and_other_values(self):
        self.check_bad(E, "e", [])
        self.check_bad(E, "e", [0])
        for value in ODD_VALUES:
            self.check_bad(E, "e", value)
            self.check_bad(B, "b", value)
        for value in (K, E, ((), ("port", 0)), [(0, ((), ("port", 0)))], ("atlas",), ("map", 0)):
            self.check_bad(E, "e", value)

    def test_random_values(self):
        rng = Random(13)
        for _ in range(3000):
            value = random_value(rng)
            if type(value) is tuple and all(type(index) is int for index in value):
                continue
            self.check_bad(FULL, FULL[0][0], value)

    def test_addresses_with_parts_changed(self):
        rng = Random(14)
        # A change adds at most one index, so that all addresses among the changed values are known.
        known = {repr(address): chart[0] for address, chart in copies(TREE, "tree", 7).items()}
        near = list(copies(TREE, "tree", 6))
        for _ in range(3000):
            value = with_part_changed(rng.choice(near), rng)
            if repr(value) in known:
                self.check(TREE, "tree", value, known[repr(value)])
            else:
                self.check_bad(TREE, "tree", value)


class IsPlaceTest(unittest.TestCase):
    def check(self, atlas, root, value, expected):
        before = repr(value)
        for _ in range(2):
            self.assertIs(is_place(atlas, root, value), expected, before[:200])
        self.assertEqual(repr(value), before)

    def check_copy(self, atlas, root, address, chart, expected=True):
        """Check every node and port of a copy, and one beyond them."""
        ports, nodes = chart[1], len(chart[2])
        for j in range(nodes):
            self.check(atlas, root, (address, ("node", j)), expected)
        for i in range(ports):
            self.check(atlas, root, (address, ("port", i)), expected)
        self.check(atlas, root, (address, ("node", nodes)), False)
        self.check(atlas, root, (address, ("port", ports)), False)
        self.check(atlas, root, (address, ("node", -1)), False)
        self.check(atlas, root, (address, ("port", -1)), False)
        self.check(atlas, root, (address, ("node", False)), False)
        self.check(atlas, root, (address, ("port", False)), False)
        self.check(atlas, root, (address, ("slot", 0, 0)), False)

    def test_examples(self):
        self.check(E, "e", ((0,), ("node", 1)), False)
        self.check(E, "e", ((0,), ("node", 0)), True)

    def test_every_copy(self):
        for atlas, root in ((E, "e"), (B, "a"), (B, "b"), (TREE, "tree"), (TREE, "leaf"), (FULL, FULL[3][0])):
            for address, chart in copies(atlas, root, 2).items():
                self.check_copy(atlas, root, address, chart)

    def test_copies_of_random_atlases(self):
        rng = Random(21)
        for _ in range(60):
            atlas = random_atlas(rng)
            root = rng.choice(atlas)[0]
            maps = {chart[0]: chart for chart in atlas}
            for length in (0, 1, 5, 200):
                address, name = random_address(rng, atlas, root, length)
                self.check_copy(atlas, root, address, maps[name])

    def test_addresses_of_no_copy(self):
        for address in ((3,), (0, 0), (1, 3), (2, 1), (-1,), (True,), [1], ("1",), None, 0):
            self.check_copy(TREE, "tree", address, TREE[2], False)

    def test_two_hundred_indexes(self):
        for length in (198, 199, 200):
            self.check_copy(E, "e", (0,) * length, E[0])
            self.check_copy(TREE, "tree", (1,) * (length - 1) + (2,), TREE[1])
        for length in (201, 202, 5000):
            self.check_copy(E, "e", (0,) * length, E[0], False)

    def test_slot_points_are_no_places(self):
        for s in range(3):
            self.check(TREE, "tree", ((), ("slot", s, 0)), False)
            self.check(TREE, "tree", ((1,), ("slot", s, 0)), False)
            self.check(TREE, "tree", ((s,), ("port", 0)), True)

    def test_one_part_changed(self):
        base = ((1, 1), ("node", 2))
        self.check(TREE, "tree", base, True)
        for value in (
            [(1, 1), ("node", 2)],
            ([1, 1], ("node", 2)),
            ((1, 1), ["node", 2]),
            ((1, True), ("node", 2)),
            ((True, 1), ("node", 2)),
            ((1, 1), ("node", True)),
            ((1, 1), ("port", True)),
            ((1, 1), ("node", "2")),
            ((1, 1), ("node", None)),
            ((1, 1), ("node", 2, 0)),
            ((1, 1), ("node",)),
            ((1, 1), ("nodes", 2)),
            ((1, 1), ("Node", 2)),
            ((1, 1), ("", 2)),
            ((1, 1), (None, 2)),
            ((1, 1), ([], 2)),
            ((1, 1), "n2"),
            ((1, 1), None),
            ((1, 1),),
            (("node", 2), (1, 1)),
            base + (0,),
            (base,),
            (1, 1, "node", 2),
            "1.1/n2",
        ):
            self.check(TREE, "tree", value, False)

    def test_values_of_any_kind(self):
        for value in ODD_VALUES:
            self.check(E, "e", value, False)
            self.check(TREE, "tree", value, False)
        rng = Random(22)
        for _ in range(3000):
            self.check(TREE, "tree", random_value(rng, 1), False)

    def test_places_with_parts_changed(self):
        rng = Random(23)
        places = []
        # A change adds at most one index, so that all places among the changed values are known.
        for address, chart in copies(TREE, "tree", 7).items():
            places.extend(places_of(chart, address))
        known = {repr(place) for place in places}
        near = [place for place in places if len(place[0]) < 7]
        counts = {True: 0, False: 0}
        for _ in range(5000):
            value = with_part_changed(rng.choice(near), rng)
            self.check(TREE, "tree", value, repr(value) in known)
            counts[repr(value) in known] += 1
        self.assertGreater(min(counts.values()), 100)


if __name__ == "__main__":
    unittest.main()
