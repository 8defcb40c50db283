"""Routes of least cost and the number of paths of least cost: [23] and [24]."""

import unittest
from itertools import product
from random import Random

from slotmaps.errors import BadAtlas, BadPoint, TooLarge, UnknownMap
from slotmaps.measures import measure
from slotmaps.routes import best_route, count_best
from slotmaps.tables import port_tables
from tests import oracle
from tests.samples import (
    FULL,
    ODD_VALUES,
    B,
    E,
    K,
    linked_atlas,
    points_of,
    random_atlas,
    random_value,
    turning_atlas,
    winding_atlas,
)

MANY = 10**300
WINDING = winding_atlas()
BAD_POINTS = ODD_VALUES + [
    ("port", 2),
    ("port", -1),
    ("port", True),
    ("port", 0, 0),
    ["port", 0],
    ("node", 1),
    ("node", False),
    ("slot", 0),
    ("slot", 1, 0),
    ("slot", 0, 2),
    ("slot", False, 0),
    ("slot", 0, False),
    ("Port", 0),
    ((), ("port", 0)),
]


def wide_map(name, slots, ways):
    """Return a map that leads from port 0 to port 1 through its slots, one by one; behind ten ways, if so asked."""
    edges = []
    here = ("port", 0)
    if ways:
        edges += [(here, ("node", j), 1) for j in range(5)]
        edges += [(("node", j), ("node", 5), 1) for j in range(5)]
        edges += [(("node", 5), ("node", 6), 2), (("node", 5), ("node", 7), 1), (("node", 7), ("node", 6), 1)]
        here = ("node", 6)
    for s in range(len(slots)):
        edges.append((here, ("slot", s, 0), 1))
        here = ("slot", s, 1)
    edges.append((here, ("port", 1), 1))
    return name, 2, ("x",) * 8, tuple(slots), tuple(sorted(edges))


def power_atlas(spare):
    """Return an atlas in which 10**300 paths lead from port 0 to port 1 of map f, and spare other maps beside it."""
    maps = [
        wide_map("a", [], True),
        wide_map("b", "aaaa", True),
        wide_map("c", "b", True),
        wide_map("d", "cccc", True),
        wide_map("e", "ddd", False),
        wide_map("f", "eeee", False),
    ]
    return tuple(maps + spare)


def beside(name, cost):
    """Return a map with the paths of map f and one more edge at this cost."""
    edges = (
        (("port", 0), ("port", 1), cost),
        (("port", 0), ("slot", 0, 0), 1),
        (("slot", 0, 1), ("port", 1), 1),
    )
    return (name, 2, (), ("f",), edges)


class BestRouteTest(unittest.TestCase):
    def check(self, atlas, name, start, end, cost):
        before = repr(atlas)
        route = best_route(atlas, name, start, end)
        self.assertEqual(repr(atlas), before)
        self.assertEqual(best_route(atlas, name, start, end), route)
        if cost is None:
            self.assertIsNone(route)
            return None
        self.assertEqual(measure(atlas, route)[0], cost)
        self.assertEqual(route[-1][:3], (name, start, end))
        self.assertLessEqual(len(route), 300)
        self.assertLessEqual(len(route[-1][3]), 60)
        return route

    def test_example(self):
        route = self.check(B, "a", ("port", 0), ("port", 1), 5)
        self.assertEqual(measure(B, route), (5, 3, 1))
        self.check(E, "e", ("port", 0), ("port", 1), 6)
        self.check(E, "e", ("port", 1), ("port", 0), None)

    def test_equal_points(self):
        for atlas in (E, B, FULL):
            for chart in atlas:
                for point in points_of(atlas, chart):
                    self.assertEqual(best_route(atlas, chart[0], point, point), [(chart[0], point, point, ())])

    def test_slot_points(self):
        self.check(B, "a", ("slot", 0, 0), ("slot", 0, 1), 3)
        self.check(B, "a", ("slot", 0, 0), ("port", 1), 4)
        self.check(B, "a", ("port", 0), ("slot", 0, 1), 4)
        self.check(B, "a", ("slot", 0, 1), ("slot", 0, 0), None)
        self.check(E, "e", ("slot", 0, 0), ("slot", 0, 1), 6)
        self.check(E, "e", ("slot", 0, 0), ("port", 1), 7)

    def test_every_pair_of_points(self):
        rng = Random(301)
        found = {True: 0, False: 0}
        for k in range(90):
            kind = k % 3
            if kind == 0:
                atlas = random_atlas(rng)
            elif kind == 1:
                atlas = linked_atlas(rng, most_slots=4, most_cost=rng.choice([1, 3, 1000000]), most_ports=4)
            else:
                atlas = turning_atlas(rng)
            chart = rng.choice(atlas)
            points = points_of(atlas, chart)
            for start in rng.sample(points, min(4, len(points))):
                costs = oracle.inside_costs(atlas, chart[0], start)
                for end in points:
                    route = self.check(atlas, chart[0], start, end, costs.get(end))
                    found[route is None] += 1
        self.assertGreater(min(found.values()), 300)

    def test_steps_of_routes(self):
        rng = Random(302)
        many = 0
        for _ in range(60):
            atlas = linked_atlas(rng)
            for name, ports, _, _, _ in atlas:
                for i, j in product(range(ports), repeat=2):
                    route = best_route(atlas, name, ("port", i), ("port", j))
                    if route is not None:
                        places, costs = oracle.walked(atlas, route)
                        self.assertEqual(costs[-1], port_tables(atlas)[name][i][j])
                        many = max(many, len(costs))
        self.assertGreater(many, 6)

    def test_deep_routes(self):
        route = self.check(WINDING, "b", ("port", 0), ("port", 1), 63)
        self.assertEqual(measure(WINDING, route), (63, 63, 31))
        rng = Random(303)
        deepest = 0
        for _ in range(60):
            atlas = turning_atlas(rng, many=8)
            tables = port_tables(atlas)
            for name in "abc":
                for i, j in product(range(4), repeat=2):
                    route = self.check(atlas, name, ("port", i), ("port", j), tables[name][i][j])
                    if route is not None:
                        deepest = max(deepest, measure(atlas, route)[2])
        self.assertGreater(deepest, 8)

    def test_new_at_each_call(self):
        best_route(E, "e", ("port", 0), ("port", 1)).clear()
        self.check(E, "e", ("port", 0), ("port", 1), 6)

    def test_bad_points(self):
        good = ("port", 0)
        for value in BAD_POINTS:
            for start, end in ((value, good), (good, value), (value, value)):
                with self.assertRaises(BadPoint):
                    best_route(E, "e", start, end)
        rng = Random(304)
        points = [repr(point) for point in points_of(E, E[0])]
        for _ in range(2000):
            value = random_value(rng, 2)
            if repr(value) not in points:
                with self.assertRaises(BadPoint):
                    best_route(E, "e", value, good)

    def test_order_of_errors(self):
        for function in (best_route, count_best):
            with self.assertRaises(BadAtlas) as caught:
                function((), "f", None, None)
            self.assertEqual(caught.exception.reason, ("atlas",))
            for name in ("f", None, True, [], {}, ("e",), "e\n"):
                with self.assertRaises(UnknownMap):
                    function(E, name, None, None)


class CountBestTest(unittest.TestCase):
    def check(self, atlas, name, start, end, expected):
        self.assertEqual(repr(count_best(atlas, name, start, end)), repr(expected))

    def test_example(self):
        self.check(E, "e", ("port", 0), ("port", 1), 1)

    def test_no_way_and_equal_points(self):
        self.check(E, "e", ("port", 1), ("port", 0), 0)
        self.check(E, "e", ("slot", 0, 1), ("node", 0), 0)
        for atlas in (E, B, FULL):
            for chart in atlas:
                for point in points_of(atlas, chart):
                    self.check(atlas, chart[0], point, point, 1)

    def test_edges_and_copies_of_equal_cost(self):
        inner = ("b", 2, ("x",), (), (
            (("node", 0), ("port", 1), 1), (("port", 0), ("node", 0), 2), (("port", 0), ("port", 1), 3),
        ))
        outer = ("a", 2, ("x",), ("b", "b"), (
            (("node", 0), ("port", 1), 4),
            (("port", 0), ("node", 0), 1),
            (("port", 0), ("port", 1), 5),
            (("port", 0), ("slot", 0, 0), 1),
            (("port", 0), ("slot", 1, 0), 1),
            (("slot", 0, 1), ("port", 1), 1),
            (("slot", 1, 1), ("port", 1), 1),
        ))
        self.check((outer, inner), "b", ("port", 0), ("port", 1), 2)
        self.check((outer, inner), "a", ("port", 0), ("port", 1), 6)
        self.check((outer, inner), "a", ("slot", 0, 0), ("slot", 0, 1), 2)
        self.check((outer, inner), "a", ("slot", 0, 0), ("port", 1), 2)
        self.check((outer, inner), "a", ("port", 0), ("slot", 1, 1), 2)

    def test_a_port_in_the_middle_of_a_copy(self):
        # From port 0 to port 2 of b all paths lead by port 1, where they touch the copy around.
        inner = ("b", 3, (), (), ((("port", 0), ("port", 1), 1), (("port", 1), ("port", 2), 1)))
        outer = ("a", 2, (), ("b",), (
            (("port", 0), ("slot", 0, 0), 1), (("slot", 0, 1), ("slot", 0, 2), 1), (("slot", 0, 2), ("port", 1), 1),
        ))
        self.check((outer, inner), "b", ("port", 0), ("port", 2), 1)
        self.check((outer, inner), "a", ("port", 0), ("port", 1), 2)
        self.check((outer[:4] + (outer[4][:1] + outer[4][2:],), inner), "a", ("port", 0), ("port", 1), 1)

    def test_recursion(self):
        # At each level a path may turn around at once, or go one level deeper for the same cost: there is no end of
        # levels, but each costs 2 more.
        edges = (
            (("node", 0), ("port", 1), 1),
            (("node", 0), ("slot", 0, 0), 1),
            (("port", 0), ("node", 0), 1),
            (("slot", 0, 1), ("port", 1), 1),
        )
        self.check((("r", 2, ("x",), ("r",), edges),), "r", ("port", 0), ("port", 1), 1)
        dear = ((("node", 0), ("port", 1), 100),) + edges[1:]
        self.check((("r", 2, ("x",), ("r",), dear),), "r", ("port", 0), ("port", 1), 1)
        # The ways of s lead through r, and those of r through s, both or an edge at the same cost.
        r = ("r", 2, (), ("s",), (
            (("port", 0), ("port", 1), 5), (("port", 0), ("slot", 0, 0), 1), (("slot", 0, 1), ("port", 1), 1),
        ))
        s = ("s", 2, (), ("r",), (
            (("port", 0), ("port", 1), 3), (("port", 0), ("slot", 0, 0), 1), (("slot", 0, 1), ("port", 1), 1),
        ))
        self.check((r, s), "r", ("port", 0), ("port", 1), 2)
        self.check((r, s), "s", ("port", 0), ("port", 1), 1)

    def test_expansions(self):
        """Paths of a cost of at most 7 are at most 3 levels deep."""
        rng = Random(311)
        counts = {}
        for _ in range(120):
            atlas = linked_atlas(rng, most_cost=rng.choice([1, 1, 2]))
            chart = rng.choice(atlas)
            points = points_of(atlas, chart)
            for start in rng.sample(points, min(3, len(points))):
                for end in points:
                    cost, many = oracle.many_ways(atlas, chart[0], start, end, 3)
                    if cost is None or cost <= 7:
                        if cost is not None or end not in oracle.inside_costs(atlas, chart[0], start):
                            self.check(atlas, chart[0], start, end, many)
                            counts[many] = counts.get(many, 0) + 1
        self.assertGreater(max(counts), 5)
        self.assertGreater(counts[0], 20)

    def test_numbers_up_to_the_limit(self):
        cost = port_tables(power_atlas([]))["f"][0][1]
        atlas = power_atlas([beside("g", cost + 3), beside("h", cost + 2)])
        ports = (("port", 0), ("port", 1))
        for name, power in (("a", 1), ("b", 5), ("c", 6), ("d", 25), ("e", 75), ("f", 300)):
            self.check(atlas, name, *ports, 10**power)
        self.check(atlas, "g", *ports, MANY)
        with self.assertRaises(TooLarge):
            count_best(atlas, "h", *ports)
        self.check(power_atlas([beside("h", cost + 1)]), "h", *ports, 1)

    def test_numbers_far_beyond_the_limit(self):
        atlas = power_atlas([wide_map("g", "ffff", True), wide_map("h", "gggg", True)])
        for name in "gh":
            with self.assertRaises(TooLarge):
                count_best(atlas, name, ("port", 0), ("port", 1))
            self.check(atlas, name, ("port", 1), ("port", 0), 0)
            self.check(atlas, name, ("port", 0), ("slot", 0, 0), 10)
            self.check(atlas, name, ("slot", 0, 0), ("slot", 0, 0), 1)
        self.check(atlas, "g", ("slot", 0, 0), ("slot", 0, 1), MANY)

    def test_bad_points(self):
        good = ("port", 0)
        for value in BAD_POINTS + [K]:
            for start, end in ((value, good), (good, value), (value, value)):
                with self.assertRaises(BadPoint):
                    count_best(E, "e", start, end)
        with self.assertRaises(BadPoint):
            count_best(power_atlas([wide_map("g", "ffff", True)]), "g", ("port", 0), ("port", 2))


if __name__ == "__main__":
    unittest.main()
