"""Least costs between places, and between the ports of a copy outside of it: [28] and [29]."""

import unittest
from random import Random

from slotmaps.between import cost_between, outer_table
from slotmaps.errors import BadAddress, BadAtlas, BadPlace, TooLarge, UnknownMap
from slotmaps.places import within
from slotmaps.tables import port_tables
from tests import oracle
from tests.drawn import BAD_PLACES, drawn_atlas
from tests.expansion import copies, places_of
from tests.samples import (
    FULL,
    LOOP,
    ODD_VALUES,
    UP,
    B,
    E,
    linked_atlas,
    points_of,
    random_place,
    random_places,
    random_value,
    winding_atlas,
)

WINDING = winding_atlas()


class CostBetweenTest(unittest.TestCase):
    def check(self, atlas, root, first, second, expected):
        before = repr((atlas, first, second))
        for _ in range(2):
            self.assertEqual(repr(cost_between(atlas, root, first, second)), repr(expected))
        self.assertEqual(repr((atlas, first, second)), before)

    def test_example(self):
        self.check(E, "e", ((0, 0), ("node", 0)), ((), ("port", 1)), 7)
        self.check(E, "e", ((), ("port", 1)), ((0, 0), ("node", 0)), None)

    def test_the_same_place(self):
        for atlas, root in ((E, "e"), (B, "a"), (UP, "u"), (FULL, FULL[0][0])):
            for address, chart in copies(atlas, root, 2).items():
                for place in places_of(chart, address):
                    self.check(atlas, root, place, place, 0)
        for length in (199, 200):
            self.check(E, "e", ((0,) * length, ("port", 1)), ((0,) * length, ("port", 1)), 0)

    def test_up_and_down_again(self):
        # From a port of the copy at (0,), by the copy around, to the other port of the copy beside it.
        self.check(UP, "u", ((0,), ("port", 0)), ((1,), ("port", 1)), 4)
        self.check(UP, "u", ((0,), ("node", 0)), ((1,), ("node", 1)), 6)
        self.check(UP, "u", ((0, 0), ("node", 0)), ((1,), ("node", 1)), 7)
        self.check(UP, "u", ((1,), ("node", 1)), ((0,), ("node", 0)), None)
        self.check(UP, "u", ((0, 1), ("node", 0)), ((1, 1), ("node", 1)), None)
        # In the root copy itself there is nothing around.
        self.check(UP, "u", ((), ("port", 0)), ((), ("node", 1)), None)
        self.check(UP, "u", ((), ("port", 0)), ((1,), ("node", 1)), 6)

    def test_within_one_copy_by_the_copies_around(self):
        # The ports of the copy in the slot are joined by an edge of the copy around it alone.
        atlas = (
            ("in", 2, (), (), ((("port", 0), ("port", 1), 50),)),
            ("out", 1, (), ("in",), ((("slot", 0, 0), ("slot", 0, 1), 3),)),
        )
        self.check(atlas, "out", ((0,), ("port", 0)), ((0,), ("port", 1)), 3)
        self.check(atlas, "in", ((), ("port", 0)), ((), ("port", 1)), 50)

    def test_drawn_places(self):
        rng = Random(601)
        counts = {True: 0, False: 0}
        for _ in range(150):
            atlas = drawn_atlas(rng)
            root = rng.choice(atlas)[0]
            for _ in range(6):
                first, second = random_places(rng, atlas, root, 5)
                expected = oracle.spine_costs(atlas, root, first, second)[second]
                self.check(atlas, root, first, second, expected)
                counts[expected is None] += 1
        self.assertGreater(min(counts.values()), 200)

    def test_places_within_a_budget(self):
        """The places that a search finds have just the costs that it finds, and all others have greater ones."""
        rng = Random(602)
        compared = 0
        for _ in range(60):
            atlas = linked_atlas(rng)
            root = rng.choice(atlas)[0]
            start = random_place(rng, atlas, root, 3)
            try:
                found = within(atlas, root, start, 6)
            except TooLarge:
                continue
            for cost, place in found[:40]:
                self.check(atlas, root, start, place, cost)
                compared += 1
            reached = {place: cost for cost, place in found}
            for _ in range(10):
                place = random_place(rng, atlas, root, 3)
                cost = cost_between(atlas, root, start, place)
                if cost is None or cost > 6:
                    self.assertNotIn(place, reached)
                else:
                    self.assertEqual(reached[place], cost)
        self.assertGreater(compared, 500)

    def test_expansions(self):
        rng = Random(603)
        for _ in range(40):
            atlas = linked_atlas(rng, most_maps=3, most_cost=2)
            root = rng.choice(atlas)[0]
            first, second = random_places(rng, atlas, root, 2)
            # Paths of a cost of at most 4 from depth 2 do not come below depth 4.
            costs = oracle.expanded_costs(atlas, root, first, 4, 4)
            cost = cost_between(atlas, root, first, second)
            self.assertEqual(cost if cost is None or cost <= 4 else None, costs.get(second))

    def test_ports_of_one_copy(self):
        for atlas in (E, B, WINDING):
            tables = port_tables(atlas)
            for name, ports, _, _, _ in atlas:
                for i in range(ports):
                    for j in range(ports):
                        self.check(atlas, name, ((), ("port", i)), ((), ("port", j)), tables[name][i][j])

    def test_two_hundred_indexes(self):
        for length in (1, 50, 199, 200):
            # Down one level costs 2; up, 1 from port 1; inside, the least is 6.
            self.check(E, "e", ((), ("port", 0)), ((0,) * length, ("node", 0)), 2 * length + 1)
            self.check(E, "e", ((0,) * length, ("node", 0)), ((), ("port", 1)), 5 + length)
            self.check(E, "e", ((0,) * length, ("port", 0)), ((), ("port", 1)), 6 + length)
            self.check(E, "e", ((0,) * length, ("port", 1)), ((), ("port", 0)), None)
        rng = Random(604)
        for _ in range(6):
            atlas = linked_atlas(rng, most_slots=2, most_cost=1000000, most_ports=4)
            root = rng.choice(atlas)[0]
            first, second = random_place(rng, atlas, root, 200), random_place(rng, atlas, root, 200)
            shared = rng.randint(0, len(first[0]))
            self.check(atlas, root, first, second, oracle.spine_costs(atlas, root, first, second)[second])
            near = (first[0][:shared], ("port", 0))
            self.check(atlas, root, first, near, oracle.spine_costs(atlas, root, first, near)[near])
            self.check(atlas, root, near, first, oracle.spine_costs(atlas, root, near, first)[first])

    def test_up_two_hundred_levels(self):
        first = ((0,) * 200, ("node", 0))
        self.check(UP, "u", first, ((1,), ("node", 1)), 1 + 199 + 4 + 1)
        self.check(UP, "u", first, ((0,) * 199 + (1,), ("node", 1)), 6)
        self.check(LOOP, "o", ((0,) * 200, ("port", 0)), ((), ("node", 0)), 200 * 7 + 3)

    def test_bad_places(self):
        good = ((), ("port", 0))
        for value in BAD_PLACES:
            for first, second in ((value, good), (good, value), (value, value)):
                with self.assertRaises(BadPlace):
                    cost_between(E, "e", first, second)
        rng = Random(605)
        for _ in range(1000):
            with self.assertRaises(BadPlace):
                cost_between(E, "e", good, random_value(rng, 1))

    def test_order_of_errors(self):
        with self.assertRaises(BadAtlas):
            cost_between([], "f", None, None)
        for name in ("f", None, [], True):
            with self.assertRaises(UnknownMap):
                cost_between(E, name, None, None)


class OuterTableTest(unittest.TestCase):
    def check(self, atlas, root, address, expected):
        before = repr(atlas)
        for _ in range(2):
            self.assertEqual(repr(outer_table(atlas, root, address)), repr(expected))
        self.assertEqual(repr(atlas), before)

    def test_example(self):
        self.check(E, "e", (0,), ((0, None), (None, 0)))

    def test_root_copy(self):
        for atlas in (E, B, FULL, LOOP):
            for name, ports, _, _, _ in atlas:
                rows = tuple([tuple([0 if i == j else None for j in range(ports)]) for i in range(ports)])
                self.check(atlas, name, (), rows)

    def test_by_the_copy_around_and_the_copy_beside(self):
        # A way from port 0 to port 1 of the copy in slot 0 leads through the copy in slot 1.
        inner = ("b", 2, (), (), ((("port", 0), ("port", 1), 3), (("port", 1), ("port", 0), 3)))
        outer = ("a", 1, (), ("b", "b"), (
            (("slot", 0, 0), ("slot", 1, 0), 5), (("slot", 1, 1), ("slot", 0, 1), 7),
        ))
        self.check((outer, inner), "a", (0,), ((0, 15), (None, 0)))
        # From port 1 to port 0 of the copy in slot 1 a way leads through the copy in slot 0, but backwards: 0 to 1.
        self.check((outer, inner), "a", (1,), ((0, None), (15, 0)))

    def test_no_step_in_the_copy_or_inside_it(self):
        # Inside, port 0 leads to port 1 and port 1 to port 2; outside, only port 1 leads to port 2.
        inner = ("b", 3, (), (), ((("port", 0), ("port", 1), 1), (("port", 1), ("port", 2), 1)))
        outer = ("a", 1, (), ("b",), ((("slot", 0, 1), ("slot", 0, 2), 9),))
        self.check((outer, inner), "a", (0,), ((0, None, None), (None, 0, 9), (None, None, 0)))

    def test_touching_the_ports_of_the_copy(self):
        # The way from port 0 to port 2 touches port 1 in between, by edges of the copy around alone.
        inner = ("b", 3, (), (), ())
        outer = ("a", 1, (), ("b",), ((("slot", 0, 0), ("slot", 0, 1), 2), (("slot", 0, 1), ("slot", 0, 2), 3)))
        self.check((outer, inner), "a", (0,), ((0, 2, 5), (None, 0, 3), (None, None, 0)))

    def test_by_copies_far_around(self):
        # Only the root joins the ports of the copy in its slot; each level has the ports of its slot as its own.
        ring = tuple(sorted([(("port", i), ("slot", 0, i), 1) for i in (0, 1)] + [
            (("slot", 0, i), ("port", i), 1) for i in (0, 1)
        ]))
        chain = ("c", 2, (), ("c",), ring)
        top = ("t", 1, (), ("c",), ((("slot", 0, 0), ("slot", 0, 1), 10),))
        for length in range(1, 201, 7):
            address = (0,) * length
            self.check((chain, top), "t", address, ((0, 10 + 2 * (length - 1)), (None, 0)))

    def test_drawn_atlases(self):
        rng = Random(611)
        entries = 0
        for _ in range(150):
            atlas = drawn_atlas(rng)
            root = rng.choice(atlas)[0]
            for length in (1, 1, 2, 3, 6):
                address = random_place(rng, atlas, root, length)[0]
                expected = oracle.outer_table(atlas, root, address)
                self.check(atlas, root, address, expected)
                entries += sum([entry not in (None, 0) for row in expected for entry in row])
        self.assertGreater(entries, 300)

    def test_two_hundred_indexes(self):
        rng = Random(612)
        entries = 0
        for _ in range(8):
            atlas = linked_atlas(rng, most_slots=2, most_cost=rng.choice([3, 1000000]), most_ports=4)
            root = rng.choice(atlas)[0]
            address = random_place(rng, atlas, root, 200)[0]
            expected = oracle.outer_table(atlas, root, address)
            self.check(atlas, root, address, expected)
            entries += sum([entry not in (None, 0) for row in expected for entry in row])
        self.assertGreater(entries, 5)

    def test_costs_in_one_copy_by_both_tables(self):
        """A path between two ports of a copy goes by ways inside it and by ways outside, in turn."""
        rng = Random(613)
        for _ in range(60):
            atlas = drawn_atlas(rng)
            root = rng.choice(atlas)[0]
            address = random_place(rng, atlas, root, 3)[0]
            outer = outer_table(atlas, root, address)
            name = root
            for s in address:
                name = [chart for chart in atlas if chart[0] == name][0][3][s]
            ways = []
            for table in (outer, port_tables(atlas)[name]):
                ways += [(i, j, c) for i, row in enumerate(table) for j, c in enumerate(row) if c is not None]
            for i in range(len(outer)):
                costs = oracle.relaxed(ways, {i: 0})
                for j in range(len(outer)):
                    cost = cost_between(atlas, root, (address, ("port", i)), (address, ("port", j)))
                    self.assertEqual(cost, costs.get(j))

    def test_bad_addresses(self):
        for value in ODD_VALUES + [(1,), (0, 1), (True,), (False,), [0], (0,) * 201, (-1,), ("0",), (None,)]:
            with self.assertRaises(BadAddress):
                outer_table(E, "e", value)
        with self.assertRaises(BadAddress):
            outer_table(B, "b", (0,))
        with self.assertRaises(UnknownMap):
            outer_table(E, "f", None)
        with self.assertRaises(BadAtlas):
            outer_table(None, "f", None)

    def test_every_copy_near_the_root(self):
        for address in copies(UP, "u", 4):
            self.check(UP, "u", address, oracle.outer_table(UP, "u", address))
        self.assertEqual(len(points_of(UP, UP[0])), 8)


if __name__ == "__main__":
    unittest.main()
