"""Maps that can replace one another, and changed atlases: [38] to [41]."""

import unittest
from random import Random

from slotmaps.atlases import atlas_error, is_atlas
from slotmaps.errors import BadAtlas, BadCost, BadPoint, BadSlot, NoEdge, TooLarge, UnknownMap
from slotmaps.replacing import same_outside, summarized, summary, with_edge, with_slot, without_edge
from slotmaps.tables import port_tables
from tests import oracle
from tests.drawn import drawn_atlas
from tests.samples import FULL, ODD_VALUES, B, E, linked_atlas, points_of, random_atlas, random_value, winding_atlas

UNKNOWN = [value for value in ODD_VALUES if value != "e"] + ["f", "e\n", "E", "ee"]
BAD_POINTS = ODD_VALUES + [
    ("node", 1),
    ("node", False),
    ("port", 2),
    ("port", -1),
    ("slot", 0),
    ("slot", 0, 2),
    ("slot", 1, 0),
    ("slot", False, 0),
    ("slot", 0, True),
    ["port", 0],
    ("Port", 0),
]
BAD_COSTS = [0, -1, True, False, None, 1000001, 10**399, "1", (), (1,), [], [1], {}]


def chain(costs):
    """Return an atlas of one map with a row of nodes from port 0 to port 1, with edges of these costs."""
    points = [("port", 0)] + [("node", j) for j in range(len(costs) - 1)] + [("port", 1)]
    edges = tuple(sorted([(points[k], points[k + 1], cost) for k, cost in enumerate(costs)]))
    return (("a", 2, ("x",) * (len(costs) - 1), (), edges),)


class SameOutsideTest(unittest.TestCase):
    def check(self, atlas, name, other, expected):
        before = repr(atlas)
        for pair in ((name, other), (other, name)):
            self.assertIs(same_outside(atlas, *pair), expected)
        self.assertEqual(repr(atlas), before)

    def test_example(self):
        self.check(B, "a", "b", False)

    def test_a_map_and_itself(self):
        for atlas in (E, B, FULL):
            for chart in atlas:
                self.check(atlas, chart[0], chart[0], True)

    def test_equal_and_unequal_tables(self):
        # "c" has the table of "a" without its slot, "d" has that of "b".
        edges = ((("port", 0), ("port", 1), 5),)
        others = (("c", 2, ("x",), (), edges), ("d", 2, (), ("b",), ((("port", 0), ("port", 1), 3),)))
        atlas = B + others
        for name, other, expected in (
            ("a", "c", True), ("b", "d", True), ("a", "b", False), ("a", "d", False), ("b", "c", False),
        ):
            self.check(atlas, name, other, expected)

    def test_other_numbers_of_ports(self):
        atlas = (("a", 1, (), (), ()), ("b", 2, (), (), ()), ("c", 2, ("x",), ("a", "b"), ()))
        self.check(atlas, "a", "b", False)
        self.check(atlas, "b", "c", True)

    def test_drawn_atlases(self):
        rng = Random(1001)
        counts = {True: 0, False: 0}
        for _ in range(200):
            atlas = linked_atlas(rng, most_maps=6, most_cost=1, most_ports=2)
            tables = oracle.port_tables(atlas)
            for name in tables:
                for other in tables:
                    expected = tables[name] == tables[other]
                    self.check(atlas, name, other, expected)
                    counts[expected] += name != other
        self.assertGreater(min(counts.values()), 50)

    def test_unknown_maps(self):
        for value in UNKNOWN:
            for name, other in ((value, "e"), ("e", value), (value, value)):
                with self.assertRaises(UnknownMap):
                    same_outside(E, name, other)
            if value != E:
                with self.assertRaises(BadAtlas):
                    same_outside(list(E), value, value)


class SummaryTest(unittest.TestCase):
    def check(self, atlas):
        """Each summary has the table of its map, no edge too many, and none that is missing."""
        before = repr(atlas)
        tables = port_tables(atlas)
        found = summarized(atlas)
        self.assertTrue(is_atlas(found))
        self.assertEqual(port_tables(found), tables)
        self.assertEqual(found, tuple([summary(atlas, chart[0]) for chart in atlas]))
        self.assertEqual(repr(summarized(found)), repr(found))
        for chart, original in zip(found, atlas):
            name, ports, labels, slots, edges = chart
            self.assertEqual((name, ports, labels, slots), (original[0], original[1], (), ()))
            self.assertEqual(repr(summary(atlas, name)), repr(chart))
            self.assertEqual(repr(summary(found, name)), repr(chart))
            for source, target, cost in edges:
                self.assertEqual(tables[name][source[1]][target[1]], cost)
                less = without_edge(found, name, source, target)
                self.assertNotEqual(port_tables(less)[name], tables[name])
        self.assertEqual(repr(atlas), before)
        return found

    def test_example(self):
        self.assertEqual(self.check(E), (("e", 2, (), (), ((("port", 0), ("port", 1), 6),)),))

    def test_no_ways_and_one_port(self):
        atlas = (("a", 1, ("x",), ("a", "b"), ((("node", 0), ("port", 0), 1),)), ("b", 3, (), (), ()))
        self.assertEqual(self.check(atlas), (("a", 1, (), (), ()), ("b", 3, (), (), ())))

    def test_detours(self):
        # The way from port 0 to port 2 by port 1 costs 4 plus 5: an edge of that cost is one too many.
        for cost, many in ((8, 3), (9, 2), (10, 2)):
            edges = ((("port", 0), ("port", 1), 4), (("port", 0), ("port", 2), cost), (("port", 1), ("port", 2), 5))
            found = self.check((("a", 3, (), (), edges),))
            self.assertEqual(found[0][4], edges[:1] + (edges[1:2] if many == 3 else ()) + edges[2:])
        # By two ports: the way around takes three of the four edges.
        edges = tuple([(("port", i), ("port", (i + 1) % 4), 1) for i in range(4)])
        edges = tuple(sorted(edges + ((("port", 0), ("port", 3), 3), (("port", 1), ("port", 3), 2))))
        found = self.check((("a", 4, (), (), edges),))
        self.assertEqual(len(found[0][4]), 4)

    def test_fewest_edges(self):
        """No set of fewer edges gives the same table."""
        rng = Random(1002)
        for _ in range(40):
            atlas = linked_atlas(rng, most_maps=2, most_cost=2, most_ports=3)
            for chart in self.check(atlas):
                table = port_tables(atlas)[chart[0]]
                pairs = [
                    (("port", i), ("port", j), cost)
                    for i, row in enumerate(table)
                    for j, cost in enumerate(row)
                    if i != j and cost is not None
                ]
                same = []
                for k in range(2 ** len(pairs)):
                    edges = tuple([pair for at, pair in enumerate(pairs) if k >> at & 1])
                    if port_tables(((chart[0], chart[1], (), (), edges),))[chart[0]] == table:
                        same.append(edges)
                fewest = min([len(edges) for edges in same])
                self.assertEqual([edges for edges in same if len(edges) == fewest], [chart[4]])

    def test_drawn_atlases(self):
        rng = Random(1003)
        for _ in range(60):
            try:
                self.check(drawn_atlas(rng))
            except TooLarge:
                pass

    def test_great_costs(self):
        self.assertEqual(self.check(chain([999999, 1]))[0][4], ((("port", 0), ("port", 1), 1000000),))
        for costs in ([1000000, 1], [1000000] * 9, [500000, 500000, 1]):
            with self.assertRaises(TooLarge):
                summary(chain(costs), "a")
            with self.assertRaises(TooLarge):
                summarized(chain(costs))

    def test_great_costs_of_one_map(self):
        atlas = chain([1000000, 1]) + (("b", 2, (), ("a",), ((("port", 0), ("port", 1), 7),)),)
        with self.assertRaises(TooLarge):
            summary(atlas, "a")
        with self.assertRaises(TooLarge):
            summarized(atlas)
        self.assertEqual(summary(atlas, "b"), ("b", 2, (), (), ((("port", 0), ("port", 1), 7),)))
        # A detour of a great cost needs no edge.
        atlas = (("c", 3, (), (), ((("port", 0), ("port", 1), 1000000), (("port", 1), ("port", 2), 1000000))),)
        self.assertEqual(self.check(atlas)[0][4], atlas[0][4])

    def test_errors(self):
        for value in UNKNOWN:
            with self.assertRaises(UnknownMap):
                summary(E, value)
            with self.assertRaises(BadAtlas):
                summary((), value)
        for value in ODD_VALUES:
            with self.assertRaises(BadAtlas) as caught:
                summarized(value)
            self.assertEqual(caught.exception.reason, atlas_error(value))


class WithSlotTest(unittest.TestCase):
    def check(self, atlas, name, s, other):
        """The result differs in this slot alone, or the error tells why it is no atlas."""
        before = repr(atlas)
        expected = tuple([
            chart[:3] + (chart[3][:s] + (other,) + chart[3][s + 1 :],) + chart[4:] if chart[0] == name else chart
            for chart in atlas
        ])
        reason = atlas_error(expected)
        if reason is None:
            self.assertEqual(repr(with_slot(atlas, name, s, other)), repr(expected))
        else:
            with self.assertRaises(BadAtlas) as caught:
                with_slot(atlas, name, s, other)
            self.assertEqual(repr(caught.exception.reason), repr(reason))
        self.assertEqual(repr(atlas), before)
        return reason

    def test_example(self):
        self.check(B, "a", 0, "a")
        self.assertEqual(port_tables(with_slot(B, "a", 0, "a"))["a"], ((0, 9), (None, 0)))

    def test_every_slot(self):
        for atlas in (E, B, winding_atlas(), FULL):
            for chart in atlas:
                for s in range(len(chart[3])):
                    for other in atlas:
                        self.check(atlas, chart[0], s, other[0])

    def test_fewer_ports(self):
        one = ("c", 1, (), (), ())
        # Edge 2 of the map "a" leads from port 1 of its slot.
        self.assertEqual(self.check(B + (one,), "a", 0, "c"), ("edge", 0, 2))
        self.assertIsNone(self.check(B + (("c", 3, (), (), ()),), "a", 0, "c"))
        # Without that edge the map fits.
        atlas = without_edge(B + (one,), "a", ("slot", 0, 1), ("port", 1))
        self.assertIsNone(self.check(atlas, "a", 0, "c"))

    def test_drawn_atlases(self):
        rng = Random(1011)
        counts = {True: 0, False: 0}
        for _ in range(300):
            atlas = random_atlas(rng)
            chart = rng.choice(atlas)
            if chart[3]:
                reason = self.check(atlas, chart[0], rng.randrange(len(chart[3])), rng.choice(atlas)[0])
                counts[reason is None] += 1
        self.assertGreater(min(counts.values()), 50)

    def test_order_of_errors(self):
        for value in UNKNOWN:
            with self.assertRaises(UnknownMap):
                with_slot(E, value, 0, "e")
            for s in (0, 1, -1, None):
                with self.assertRaises(UnknownMap):
                    with_slot(E, "e", s, value)
            with self.assertRaises(BadAtlas):
                with_slot({}, value, 0, "e")
        for s in [value for value in ODD_VALUES if value != 0] + [1, 4, 10**399, -(10**399), "0", (0,)]:
            with self.assertRaises(BadSlot):
                with_slot(E, "e", s, "e")
        for s in (0, 1, True, False):
            with self.assertRaises(BadSlot):
                with_slot(B, "b", s, "a")
        for s in (True, False):
            with self.assertRaises(BadSlot):
                with_slot(B + (("c", 1, (), (), ()),), "a", s, "c")


class WithEdgeTest(unittest.TestCase):
    def check(self, atlas, name, source, target, cost):
        before = repr(atlas)
        found = with_edge(atlas, name, source, target, cost)
        self.assertTrue(is_atlas(found))
        for chart, original in zip(found, atlas):
            if chart[0] == name:
                edges = {edge[:2]: edge[2] for edge in original[4]}
                edges[(source, target)] = cost
                self.assertEqual({edge[:2]: edge[2] for edge in chart[4]}, edges)
                self.assertEqual(chart[:4], original[:4])
            else:
                self.assertEqual(chart, original)
        self.assertEqual((len(found), repr(atlas)), (len(atlas), before))
        return found

    def test_example(self):
        self.check(E, "e", ("node", 0), ("port", 1), 4)
        self.assertEqual(port_tables(with_edge(E, "e", ("node", 0), ("port", 1), 4)), {"e": ((0, 5), (None, 0))})

    def test_at_the_beginning_in_the_middle_and_at_the_end(self):
        for source, target, at in (
            (("node", 0), ("port", 0), 0),
            (("port", 0), ("port", 1), 3),
            (("slot", 0, 1), ("slot", 0, 0), 4),
        ):
            found = self.check(E, "e", source, target, 3)
            self.assertEqual(found[0][4][at], (source, target, 3))
            self.assertEqual(without_edge(found, "e", source, target), E)

    def test_changed(self):
        for source, target, cost in E[0][4]:
            for other in (1, cost, 1000000):
                found = self.check(E, "e", source, target, other)
                self.assertEqual(len(found[0][4]), 4)
                self.assertEqual(self.check(found, "e", source, target, cost), E)

    def test_forty_edges(self):
        for chart in FULL[1:3]:
            name, edges = chart[0], chart[4]
            k = [other[0] for other in FULL].index(name)
            self.assertEqual(len(edges), 40)
            source, target, cost = edges[7]
            self.check(FULL, name, source, target, 5)
            less = without_edge(FULL, name, source, target)
            self.assertEqual(self.check(less, name, source, target, cost), FULL)
            points = points_of(FULL, chart)
            pairs = [edge[:2] for edge in edges]
            others = [(a, b) for a in points for b in points if a != b and (a, b) not in pairs]
            for a, b in others[:: len(others) // 5]:
                with self.assertRaises(BadAtlas) as caught:
                    with_edge(FULL, name, a, b, 1)
                self.assertEqual(caught.exception.reason, ("edges", k))
                self.check(less, name, a, b, 1)

    def test_order_of_errors(self):
        good = ("port", 0)
        for value in BAD_POINTS:
            for source, target in ((value, good), (good, value), (value, value)):
                with self.assertRaises(BadPoint):
                    with_edge(E, "e", source, target, 0)
        for point in points_of(E, E[0]):
            for cost in (1, 0, None):
                with self.assertRaises(BadPoint):
                    with_edge(E, "e", point, point, cost)
        for value in BAD_COSTS:
            with self.assertRaises(BadCost):
                with_edge(E, "e", good, ("port", 1), value)
            # With forty edges already, the wrong cost comes first.
            pairs = [edge[:2] for edge in FULL[0][4]]
            target = [("port", i) for i in range(1, 4) if (good, ("port", i)) not in pairs][0]
            with self.assertRaises(BadCost):
                with_edge(FULL, FULL[0][0], good, target, value)
        for value in UNKNOWN:
            with self.assertRaises(UnknownMap):
                with_edge(E, value, None, None, 0)
            with self.assertRaises(BadAtlas):
                with_edge(None, value, None, None, 0)

    def test_values_of_any_kind(self):
        rng = Random(1021)
        points = points_of(E, E[0])
        for _ in range(500):
            value = random_value(rng)
            if value not in points:
                with self.assertRaises(BadPoint):
                    with_edge(E, "e", ("port", 0), value, 1)
                with self.assertRaises(BadPoint):
                    without_edge(E, "e", value, ("port", 0))


class WithoutEdgeTest(unittest.TestCase):
    def test_example(self):
        self.assertEqual(port_tables(without_edge(E, "e", ("node", 0), ("port", 1))), {"e": ((0, None), (None, 0))})

    def test_every_edge(self):
        for atlas in (E, B, FULL):
            before = repr(atlas)
            for chart in atlas:
                for e, (source, target, cost) in enumerate(chart[4]):
                    found = without_edge(atlas, chart[0], source, target)
                    edges = chart[4][:e] + chart[4][e + 1 :]
                    expected = tuple([chart[:4] + (edges,) if other == chart else other for other in atlas])
                    self.assertEqual(repr(found), repr(expected))
                    self.assertEqual(with_edge(found, chart[0], source, target, cost), atlas)
                    with self.assertRaises(NoEdge):
                        without_edge(found, chart[0], source, target)
            self.assertEqual(repr(atlas), before)

    def test_errors(self):
        good = ("port", 0)
        for value in BAD_POINTS:
            for source, target in ((value, good), (good, value), (value, value)):
                with self.assertRaises(BadPoint):
                    without_edge(E, "e", source, target)
        points = points_of(E, E[0])
        edges = [edge[:2] for edge in E[0][4]]
        for source in points:
            for target in points:
                if (source, target) not in edges:
                    with self.assertRaises(NoEdge):
                        without_edge(E, "e", source, target)
        for value in UNKNOWN:
            with self.assertRaises(UnknownMap):
                without_edge(E, value, None, None)
            with self.assertRaises(BadAtlas):
                without_edge(0, value, None, None)


if __name__ == "__main__":
    unittest.main()
