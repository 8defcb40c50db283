"""Least costs down to some depth, and without some copies: [49] and [50]."""

import unittest
from random import Random

from slotmaps.between import cost_between
from slotmaps.errors import BadAddress, BadAtlas, BadDepth, BadPlace, UnknownMap
from slotmaps.limits import cost_avoiding, cost_to_depth, levels_between
from slotmaps.tables import depth_profile, limited_tables
from tests import oracle, searches
from tests.drawn import BAD_PLACES, drawn_atlas, finite_atlas
from tests.expansion import copies, costs_from, places_of, steps
from tests.samples import (
    FULL,
    LOOP,
    ODD_VALUES,
    UP,
    B,
    E,
    linked_atlas,
    random_place,
    random_places,
    random_value,
    turning_atlas,
    winding_atlas,
)

P0, P1 = ((), ("port", 0)), ((), ("port", 1))
WINDING = winding_atlas()
BAD_DEPTHS = [True, False, None, -1, -(10**59), -(10**399), "0", "", (), (0,), [], [0], {}, {0: 0}]


def changes(costs):
    """Return the changes of costs, one for each depth from 0."""
    found = []
    before = None
    for depth, cost in enumerate(costs):
        if cost != before:
            found.append((depth, cost))
        before = cost
    return found


class CostToDepthTest(unittest.TestCase):
    def check(self, atlas, root, first, second, depth, expected):
        before = repr((atlas, first, second))
        for _ in range(2):
            self.assertEqual(repr(cost_to_depth(atlas, root, first, second, depth)), repr(expected))
        self.assertEqual(repr((atlas, first, second)), before)

    def test_example(self):
        self.check(B, "a", P0, P1, 0, 9)
        self.check(B, "a", P0, P1, 1, 5)

    def test_great_depths(self):
        for depth in (1, 2, 95, 96, 185, 200, 214, 10**9, 10**59, 10**399):
            self.check(B, "a", P0, P1, depth, 5)
            self.check(E, "e", ((0, 0), ("node", 0)), P1, depth, 7 if depth > 1 else None)
            self.check(E, "e", P1, P0, depth, None)

    def test_the_same_place(self):
        for place in (P0, ((0,) * 5, ("port", 1)), ((0,) * 200, ("node", 0))):
            for depth in (0, 1, 4, 5, 199, 200, 10**59):
                self.check(E, "e", place, place, depth, 0)

    def test_places_below_the_depth(self):
        # A port of the copy in a slot is touched by the edges of the copy around; its nodes are not.
        self.check(E, "e", P0, ((0,), ("port", 0)), 0, 2)
        self.check(E, "e", P0, ((0,), ("node", 0)), 0, None)
        self.check(E, "e", P0, ((0,), ("node", 0)), 1, 3)
        self.check(E, "e", ((0,), ("port", 1)), P1, 0, 1)
        self.check(E, "e", ((0,), ("node", 0)), P1, 0, None)
        self.check(E, "e", P0, ((0, 0), ("port", 0)), 0, None)
        self.check(E, "e", P0, ((0, 0), ("port", 0)), 1, 4)
        for length in (1, 2, 199, 200):
            place = ((0,) * length, ("node", 0))
            self.check(E, "e", P0, place, length - 1, None)
            self.check(E, "e", P0, place, length, 2 * length + 1)
            self.check(E, "e", place, P1, length - 1, None)
            self.check(E, "e", place, P1, length, 5 + length)

    def test_around_two_hundred(self):
        for depth in range(185, 215):
            for length in range(185, 201, 5):
                deep = (0,) * length
                self.check(LOOP, "o", P0, (deep, ("port", 0)), depth, 5 * length if depth >= length - 1 else None)
                self.check(LOOP, "o", (deep, ("node", 0)), P0, depth, 2 + 7 * length if depth >= length else None)
                # Inside the copy at this address and below it, the cheaper way needs one level more.
                self.check(B, "a", P0, P1, depth, 5)

    def test_just_enough_levels(self):
        for atlas, root in ((WINDING, "a"), (winding_atlas(3), "a"), (WINDING, "f")):
            for i in range(4):
                for j in range(4):
                    profile = depth_profile(atlas, root, i, j)
                    first, second = ((), ("port", i)), ((), ("port", j))
                    for at, (depth, cost) in enumerate(profile):
                        self.check(atlas, root, first, second, depth, cost)
                        if depth:
                            before = profile[at - 1][1] if at else None
                            self.check(atlas, root, first, second, depth - 1, before)
                    self.check(atlas, root, first, second, 10**59, profile[-1][1] if profile else None)

    def test_many_levels_below_a_deep_place(self):
        # From port 3 to port 0 a way leads down one round more, wherever the copy lies.
        for length in (8, 96, 192, 200):
            first, second = ((0,) * length, ("port", 1)), ((0,) * length, ("port", 2))
            costs = [cost_to_depth(WINDING, "a", first, second, depth) for depth in range(length + 100)]
            levels = changes(costs)
            self.assertEqual(levels_between(WINDING, "a", first, second), levels)
            self.assertEqual(costs[-1], cost_between(WINDING, "a", first, second))
            self.assertGreater(len(levels), 0)

    def test_expansions(self):
        rng = Random(941)
        counts = {}
        for _ in range(250):
            atlas = rng.choice([drawn_atlas, turning_atlas])(rng)
            root = rng.choice(atlas)[0]
            most = 4 if max([len(chart[3]) for chart in atlas]) < 3 else 3
            first, second = random_places(rng, atlas, root, most)
            costs = [
                costs_from(steps(copies(atlas, root, depth)), first, oracle.HUGE).get(second)
                for depth in range(most + 1)
            ]
            for depth, cost in enumerate(costs):
                self.check(atlas, root, first, second, depth, cost)
            kind = "none" if costs[-1] is None else "one" if len(changes(costs)) == 1 else "more"
            counts[kind] = counts.get(kind, 0) + 1
        self.assertGreater(min([counts[kind] for kind in ("none", "one", "more")]), 10)

    def test_with_great_depths_as_without(self):
        rng = Random(942)
        for _ in range(150):
            atlas = drawn_atlas(rng)
            root = rng.choice(atlas)[0]
            first, second = random_places(rng, atlas, root, rng.choice([1, 4, 200]))
            cost = cost_between(atlas, root, first, second)
            for depth in (296, 300, 10**59, 10**59 + rng.randint(0, 9)):
                self.check(atlas, root, first, second, depth, cost)

    def test_ports_of_the_root(self):
        rng = Random(943)
        for k in range(40):
            atlas = turning_atlas(rng) if k % 2 else drawn_atlas(rng)
            for depth in (0, 1, 2, 5, 20, 100):
                tables = limited_tables(atlas, depth)
                name, ports = rng.choice(atlas)[:2]
                for i in range(ports):
                    for j in range(ports):
                        self.check(atlas, name, ((), ("port", i)), ((), ("port", j)), depth, tables[name][i][j])

    def test_bad_depths(self):
        for value in BAD_DEPTHS:
            for second in (P0, P1, ((0,) * 200, ("node", 0))):
                with self.assertRaises(BadDepth):
                    cost_to_depth(E, "e", P0, second, value)

    def test_order_of_errors(self):
        for value in BAD_PLACES:
            for first, second in ((value, P0), (P0, value), (value, value)):
                with self.assertRaises(BadPlace):
                    cost_to_depth(E, "e", first, second, -1)
                with self.assertRaises(BadPlace):
                    levels_between(E, "e", first, second)
                with self.assertRaises(BadPlace):
                    cost_avoiding(E, "e", first, second, None)
        for function, rest in ((cost_to_depth, (-1,)), (levels_between, ()), (cost_avoiding, (None,))):
            for value in ODD_VALUES:
                with self.assertRaises(BadAtlas):
                    function(value, "f", None, None, *rest)
                if value != "e":
                    with self.assertRaises(UnknownMap):
                        function(E, value, None, None, *rest)


class LevelsBetweenTest(unittest.TestCase):
    def check(self, atlas, root, first, second, expected):
        before = repr((atlas, first, second))
        for _ in range(2):
            found = levels_between(atlas, root, first, second)
            self.assertEqual(repr(found), repr(expected))
            found.append(None)
        self.assertEqual(repr((atlas, first, second)), before)

    def test_example(self):
        self.check(B, "a", P0, P1, [(0, 9), (1, 5)])

    def test_no_path(self):
        self.check(E, "e", P1, P0, [])
        self.check(E, "e", ((0,) * 200, ("port", 1)), P0, [])
        self.check(UP, "u", ((1,), ("node", 1)), ((0,), ("node", 0)), [])

    def test_the_same_place(self):
        for place in (P0, ((0,), ("port", 0)), ((0,) * 200, ("node", 0))):
            self.check(E, "e", place, place, [(0, 0)])

    def test_deep_places(self):
        for length in (1, 2, 199, 200):
            self.check(E, "e", P0, ((0,) * length, ("node", 0)), [(length, 2 * length + 1)])
            self.check(E, "e", P0, ((0,) * length, ("port", 0)), [(length - 1, 2 * length)])
            self.check(E, "e", ((0,) * length, ("port", 1)), P1, [(length - 1, length)])

    def test_a_change_that_no_port_table_shows(self):
        # From node to node a way leads through a copy of "a" of which the table changes last.
        nodes = ("y", 1, ("x", "x"), ("a",), ((("node", 0), ("slot", 0, 0), 1), (("slot", 0, 1), ("node", 1), 1)))
        atlas = B + (nodes,)
        self.assertEqual(limited_tables(atlas, 1), limited_tables(atlas, 2))
        self.check(atlas, "y", ((), ("node", 0)), ((), ("node", 1)), [(1, 11), (2, 7)])

    def test_changes_of_the_cost(self):
        rng = Random(951)
        counts = {}
        for k in range(120):
            atlas = turning_atlas(rng, rng.choice([2, 4, 8])) if k % 2 else drawn_atlas(rng)
            root = rng.choice(atlas)[0]
            first, second = random_places(rng, atlas, root, rng.choice([0, 1, 3, 6]))
            most = max(len(first[0]), len(second[0])) + 97
            costs = [cost_to_depth(atlas, root, first, second, depth) for depth in range(most)]
            self.check(atlas, root, first, second, changes(costs))
            many = min(len(changes(costs)), 4)
            counts[many] = counts.get(many, 0) + 1
        self.assertEqual(sorted(counts), [0, 1, 2, 3, 4])

    def test_two_hundred_indexes(self):
        rng = Random(952)
        for _ in range(12):
            atlas = turning_atlas(rng, rng.choice([2, 4]))
            root = rng.choice(atlas)[0]
            first = random_place(rng, atlas, root, 200)
            second = (first[0][: rng.randint(190, 200)], ("port", rng.randrange(4)))
            costs = [cost_to_depth(atlas, root, first, second, depth) for depth in range(297)]
            self.check(atlas, root, first, second, changes(costs))

    def test_ports_of_the_root(self):
        for atlas in (B, E, WINDING, winding_atlas(5)):
            for name, ports, _, _, _ in atlas:
                for i in range(ports):
                    for j in range(ports):
                        profile = depth_profile(atlas, name, i, j)
                        self.check(atlas, name, ((), ("port", i)), ((), ("port", j)), profile)

    def test_last_change(self):
        rng = Random(953)
        for _ in range(60):
            atlas = drawn_atlas(rng)
            root = rng.choice(atlas)[0]
            first, second = random_places(rng, atlas, root, 5)
            levels = levels_between(atlas, root, first, second)
            cost = cost_between(atlas, root, first, second)
            self.assertEqual(levels[-1][1] if levels else None, cost)


class CostAvoidingTest(unittest.TestCase):
    def check(self, atlas, root, first, second, closed, expected):
        before = repr((atlas, first, second, closed))
        for _ in range(2):
            self.assertEqual(repr(cost_avoiding(atlas, root, first, second, closed)), repr(expected))
        self.assertEqual(repr((atlas, first, second, closed)), before)

    def test_example(self):
        self.check(B, "a", P0, P1, [(0,)], 9)

    def test_none_closed(self):
        rng = Random(961)
        for _ in range(60):
            atlas = drawn_atlas(rng)
            root = rng.choice(atlas)[0]
            first, second = random_places(rng, atlas, root, rng.choice([1, 4, 200]))
            self.check(atlas, root, first, second, [], cost_between(atlas, root, first, second))

    def test_the_root_copy(self):
        self.check(B, "a", P0, P1, [()], None)
        self.check(B, "a", P0, P0, [()], 0)
        self.check(B, "a", ((0,), ("port", 0)), ((0,), ("port", 1)), [()], None)
        self.check(B, "a", ((0,), ("port", 0)), ((0,), ("port", 0)), [()], 0)
        self.check(B, "b", P0, P1, [()], None)

    def test_equal_places(self):
        deep = ((0,) * 200, ("node", 0))
        for place in (P0, ((0,), ("node", 0)), deep):
            for closed in ([], [()], [(0,)], [(0,) * 200], [(0,), (0, 0), (0,)]):
                self.check(E, "e", place, place, closed, 0)

    def test_places_inside_closed_copies(self):
        for address in ((), (0,), (0, 0)):
            self.check(E, "e", ((0, 0), ("node", 0)), P1, [address], None)
            self.check(E, "e", P0, ((0, 0), ("node", 0)), [address], None)
        self.check(E, "e", ((0, 0), ("node", 0)), P1, [(0, 0, 0)], 7)

    def test_ports_of_closed_copies(self):
        # The edges of the copy around touch these ports.
        self.check(E, "e", ((0,), ("port", 1)), P1, [(0,)], 1)
        self.check(E, "e", P0, ((0,), ("port", 0)), [(0,)], 2)
        self.check(E, "e", ((0,), ("port", 0)), P1, [(0,)], None)
        inner = ("b", 3, (), (), (
            (("port", 0), ("port", 1), 1), (("port", 0), ("port", 2), 2), (("port", 1), ("port", 2), 1),
        ))
        outer = ("a", 2, (), ("b",), (
            (("port", 0), ("slot", 0, 0), 1),
            (("slot", 0, 0), ("slot", 0, 1), 20),
            (("slot", 0, 1), ("slot", 0, 2), 30),
            (("slot", 0, 2), ("port", 1), 1),
        ))
        self.check((outer, inner), "a", P0, P1, [], 4)
        self.check((outer, inner), "a", P0, P1, [(0,)], 52)
        self.check((outer, inner), "a", ((0,), ("port", 0)), ((0,), ("port", 2)), [(0,)], 50)
        self.check((outer, inner), "a", ((0,), ("port", 0)), ((0,), ("port", 2)), [], 2)

    def test_one_inside_another(self):
        self.check(B, "a", P0, P1, [(0,), (0,)], 9)
        for closed in ([(0,), (0, 0)], [(0, 0), (0,)], [(0,), (0,)], [(0,) * 200, (0,)], [(0,), (0,) * 200]):
            self.check(E, "e", ((0,), ("port", 0)), P1, closed, None)
            self.check(E, "e", P0, P1, closed, 6)
        closed = [(0, 0), (0, 0, 0)]
        self.check(E, "e", ((0,), ("port", 0)), P1, closed, 7)
        self.check(E, "e", ((0, 0), ("port", 0)), P1, closed, None)

    def test_copies_beside(self):
        # The copy at (1,) is closed: the ports of the copy at (0,) still lead to one of its ports.
        self.check(UP, "u", ((0,), ("node", 0)), ((1,), ("port", 1)), [(1,)], 5)
        self.check(UP, "u", ((0,), ("node", 0)), ((1,), ("node", 1)), [(1,)], None)
        self.check(UP, "u", ((0,), ("node", 0)), ((1,), ("node", 1)), [(1, 0), (1, 1), (0, 0), (0, 1)], 6)
        self.check(UP, "u", ((0, 0), ("node", 0)), ((1,), ("node", 1)), [(0,)], None)
        self.check(UP, "u", ((0, 0), ("node", 0)), ((1,), ("node", 1)), [(0, 1)], 7)

    def test_a_way_down_and_up_again(self):
        # With one level closed after another, the way from port 0 to port 1 of the winding atlas gets dearer.
        for root in ("b", "h"):
            costs = []
            for length in range(1, 41):
                closed = [(0,) * length]
                cost = cost_avoiding(WINDING, root, P0, P1, closed)
                self.assertEqual(cost, cost_to_depth(WINDING, root, P0, P1, length - 1))
                costs.append(cost)
            self.assertEqual(costs[-1], cost_between(WINDING, root, P0, P1))
            self.assertIsNone(costs[0])

    def test_drawn_atlases(self):
        rng = Random(962)
        counts = {}
        for _ in range(1000):
            atlas = rng.choice([drawn_atlas, turning_atlas])(rng)
            root = rng.choice(atlas)[0]
            first, second = random_places(rng, atlas, root, 4)
            closed = [self.drawn_address(rng, atlas, root, first, second) for _ in range(rng.choice([1, 1, 2, 5, 20]))]
            expected = searches.cost_avoiding(atlas, root, first, second, closed)
            self.check(atlas, root, first, second, closed, expected)
            least = cost_between(atlas, root, first, second)
            kind = "equal" if expected == least else "none" if expected is None else "dearer"
            counts[kind] = counts.get(kind, 0) + 1
        self.assertGreater(min([counts[kind] for kind in ("equal", "none", "dearer")]), 20)

    def drawn_address(self, rng, atlas, root, first, second):
        """Return the address of a copy around or at one of the places, or of one inside such a copy."""
        address = rng.choice([first, second])[0]
        prefix = address[: rng.randint(0, len(address))]
        if rng.random() < 0.3 and prefix:
            return prefix
        name = oracle.spine(atlas, root, [prefix])[prefix][0]
        return prefix + random_place(rng, atlas, name, rng.randint(1, 2))[0]

    def test_finite_expansions(self):
        rng = Random(963)
        for _ in range(150):
            atlas = finite_atlas(rng)
            first, second = random_places(rng, atlas, "a", 3)
            found = copies(atlas, "a", 4)
            closed = rng.sample(list(found), min(len(found), rng.randint(0, 3)))
            left = {
                address: chart
                for address, chart in found.items()
                if not any([address[: len(other)] == other for other in closed])
            }
            self.check(atlas, "a", first, second, closed, costs_from(steps(left), first, oracle.HUGE).get(second))

    def test_two_hundred_indexes(self):
        deep = (0,) * 200
        for length in (1, 2, 100, 199, 200):
            closed = [(0,) * length]
            self.check(E, "e", P0, (deep, ("node", 0)), closed, None)
            self.check(E, "e", P0, (deep[: length - 1], ("node", 0)), closed, 2 * length - 1)
            self.check(E, "e", (deep, ("port", 0)), (deep, ("node", 0)), closed, None)
            self.check(LOOP, "o", (deep, ("port", 0)), P0, closed, 7 * 200 if length == 200 else None)
        self.check(E, "e", (deep, ("port", 0)), (deep, ("port", 1)), [deep], None)
        self.check(E, "e", (deep, ("port", 0)), (deep, ("port", 1)), [], 6)
        self.check(E, "e", (deep[:199], ("port", 0)), (deep[:199], ("port", 1)), [deep], 6)
        rng = Random(964)
        for _ in range(8):
            atlas = linked_atlas(rng, most_slots=2, most_cost=rng.choice([3, 1000000]), most_ports=4)
            root = rng.choice(atlas)[0]
            first, second = random_place(rng, atlas, root, 200), random_place(rng, atlas, root, 200)
            closed = [random_place(rng, atlas, root, 200)[0] for _ in range(4)] + [first[0][:150] + second[0][150:]]
            closed = [address for address in closed if address and self.is_address(atlas, root, address)]
            for places in ((first, second), (first, (second[0][:3], ("port", 0))), (first, (first[0][:190], P0[1]))):
                expected = searches.cost_avoiding(atlas, root, *places, closed)
                self.check(atlas, root, *places, closed, expected)

    def is_address(self, atlas, root, address):
        maps = {chart[0]: chart for chart in atlas}
        name = root
        for s in address:
            if s >= len(maps[name][3]):
                return False
            name = maps[name][3][s]
        return True

    def test_number_of_addresses(self):
        for many in (0, 1, 19, 20):
            self.check(B, "a", P0, P1, [(0,)] * many, 9 if many else 5)
        for many in (21, 22, 20000):
            with self.assertRaises(BadAddress):
                cost_avoiding(B, "a", P0, P1, [(0,)] * many)
        closed = [(0,) * length for length in range(181, 201)]
        self.check(E, "e", P0, ((0,) * 180, ("node", 0)), closed, 361)
        with self.assertRaises(BadAddress):
            cost_avoiding(E, "e", P0, P1, closed + [(0,)])

    def test_bad_addresses(self):
        for value in [odd for odd in ODD_VALUES if odd not in ([], [()])]:
            with self.assertRaises(BadAddress):
                cost_avoiding(E, "e", P0, P1, value)
            with self.assertRaises(BadAddress):
                cost_avoiding(E, "e", P0, P0, [(0,), value])
        for value in ((1,), (0, 1), (True,), (False,), [0], (0,) * 201, (-1,), ("0",), (None,), ((0,),), "", None):
            for closed in ([value], [(0,), value], [value, (0,)]):
                with self.assertRaises(BadAddress):
                    cost_avoiding(E, "e", P0, P1, closed)
        for value in (((0,),), {(0,): True}, (), {}, None, "()", (0,)):
            with self.assertRaises(BadAddress):
                cost_avoiding(E, "e", P0, P1, value)
        with self.assertRaises(BadAddress):
            cost_avoiding(B, "b", P0, P1, [(0,)])
        rng = Random(965)
        for _ in range(1000):
            value = random_value(rng, 1)
            if value not in ((), (0,)):
                with self.assertRaises(BadAddress):
                    cost_avoiding(E, "e", P0, P1, [value])

    def test_every_copy_near_the_root(self):
        for address, chart in copies(UP, "u", 3).items():
            for place in places_of(chart, address):
                for closed in ((0,), (1,), (0, 0), (0, 1), (1, 1, 0)):
                    for first, second in ((place, P0), (((0,), ("port", 0)), place)):
                        expected = searches.cost_avoiding(UP, "u", first, second, [closed])
                        self.check(UP, "u", first, second, [closed], expected)

    def test_full_atlas(self):
        rng = Random(966)
        root = FULL[0][0]
        for _ in range(10):
            first, second = random_places(rng, FULL, root, 3)
            closed = [random_place(rng, FULL, root, 3)[0] for _ in range(3)]
            expected = searches.cost_avoiding(FULL, root, first, second, closed)
            self.check(FULL, root, first, second, closed, expected)


if __name__ == "__main__":
    unittest.main()
