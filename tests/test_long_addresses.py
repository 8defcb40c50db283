"""Places with long addresses: [28] to [37], [49] and [50] far down, two hundred levels apart."""

import unittest
from random import Random

from slotmaps.between import cost_between, outer_table
from slotmaps.certificates import bars, certificate
from slotmaps.counting import count_at, count_mod
from slotmaps.errors import BadAddress, BadAtlas, BadPlace, BadTrip, UnknownMap
from slotmaps.labels import nearest
from slotmaps.limits import cost_avoiding, cost_to_depth, levels_between
from slotmaps.meetings import meeting
from slotmaps.places import is_place, map_at
from slotmaps.trips import best_trip, measure_trip
from tests import oracle
from tests.samples import random_place
from tests.searches import copies_to, costs_in, ranked_meetings, ranked_nodes
from tests.work import many_calls

LEFT, RIGHT = (0,) * 200, (1,) * 200
P, Q = (LEFT, ("port", 1)), (RIGHT, ("port", 0))
FAR = (LEFT + (0,), ("port", 0))
# Places that are like FAR: too deep, in no copy, or only equal to a place.
NO_PLACES = [
    FAR,
    (RIGHT + (1,), ("port", 0)),
    (LEFT + (0,), ("node", 0)),
    (LEFT[1:] + (2,), ("port", 0)),
    (LEFT[1:] + (-1,), ("port", 0)),
    (LEFT[1:] + (False,), ("port", 0)),
    ((False,) + LEFT[1:], ("port", 0)),
    (RIGHT[:100] + (True,) + RIGHT[101:], ("port", 0)),
    (LEFT[1:] + ("0",), ("port", 0)),
    (LEFT[1:] + (None,), ("port", 0)),
    (LEFT[1:] + ((0,),), ("port", 0)),
    (list(LEFT), ("port", 0)),
    (LEFT, ("port", 2)),
    (LEFT, ("port", False)),
    (LEFT, ("slot", 0, 0)),
    LEFT,
]


def tree(out=1, down=1, left=1, right=1, up=1, back=1, across=1, up_right=1):
    """Return an atlas of one map with two copies of itself in it, and a node; its edges have these costs."""
    return (("tree", 2, ("x",), ("tree", "tree"), (
        (("node", 0), ("port", 1), out),
        (("port", 0), ("node", 0), down),
        (("port", 0), ("slot", 0, 0), left),
        (("port", 0), ("slot", 1, 0), right),
        (("slot", 0, 1), ("port", 1), up),
        (("slot", 0, 1), ("slot", 0, 0), back),
        (("slot", 0, 1), ("slot", 1, 0), across),
        (("slot", 1, 1), ("port", 1), up_right),
    )),)


def drawn_costs(rng):
    """Return costs for a tree: equal ones, or such that ways through the copies beside are the cheaper ones or not."""
    most = rng.choice([1, 2, 30, 200000])
    costs = {word: rng.randint(1, most) for word in ("out", "down", "left", "back", "across", "up_right")}
    costs["up"] = rng.choice([1, most, 5 * most, rng.randint(1, 5 * most)])
    costs["right"] = rng.choice([1, most, 5 * most, rng.randint(1, 5 * most)])
    return costs


def tree_levels(costs):
    """Return what a tree's levels cost: (through a copy, up one level, down one level)."""
    through = costs["down"] + costs["out"]
    up = min(costs["up"], costs["across"] + through + costs["up_right"])
    return through, up, min(costs["right"], costs["left"] + through + costs["across"])


def apart(rng, most_cost=1000000):
    """Return an atlas of one map with two copies of itself in it, in which no port is joined to another one."""
    edges = []
    for i in range(4):
        for s in range(2):
            edges.append((("port", i), ("slot", s, i), rng.randint(1, most_cost)))
            edges.append((("slot", s, i), ("port", i), rng.randint(1, most_cost)))
    return (("apart", 4, (), ("apart", "apart"), tuple(sorted(edges))),)


def apart_cost(atlas, first, second):
    """Return the cost of the only path between two places of such an atlas, or None."""
    if first[1] != second[1]:
        return None
    costs = {edge[:2]: edge[2] for edge in atlas[0][4]}
    common = 0
    while common < min(len(first[0]), len(second[0])) and first[0][common] == second[0][common]:
        common += 1
    i = first[1][1]
    ups = [costs[(("slot", s, i), ("port", i))] for s in first[0][common:]]
    downs = [costs[(("port", i), ("slot", s, i))] for s in second[0][common:]]
    if ups and downs:
        # At the top the path comes to the port of the copy around both, and leaves it again.
        return sum(ups) + sum(downs)
    return sum(ups + downs)


class LongAddressesTest(unittest.TestCase):
    def check_trip(self, atlas, root, first, second, cost):
        """All answers about the two places say that this is the least cost, or that there is no path."""
        self.assertEqual(repr(cost_between(atlas, root, first, second)), repr(cost))
        self.assertEqual(cost_to_depth(atlas, root, first, second, 10**20), cost)
        self.assertEqual(cost_avoiding(atlas, root, first, second, []), cost)
        trip = best_trip(atlas, root, first, second)
        paper = certificate(atlas, root, first, second)
        self.assertIs(type(paper), tuple)
        self.assertTrue(bars(atlas, root, first, second, cost, paper))
        self.assertIs(bars(atlas, root, first, second, None, paper), cost is None)
        if cost is None:
            self.assertIsNone(trip)
            return None
        self.assertEqual(measure_trip(atlas, root, first, trip)[:2], (second, cost))
        self.assertFalse(bars(atlas, root, first, second, cost + 1, paper))
        return trip

    def test_the_tree(self):
        trip = self.check_trip(tree(), "tree", P, Q, 399)
        self.assertEqual(measure_trip(tree(), "tree", P, trip), (Q, 399, 399))
        self.assertEqual(cost_avoiding(tree(), "tree", P, Q, [LEFT]), 399)
        self.assertEqual(meeting(tree(), "tree", Q, P), (399, Q))
        self.assertEqual(nearest(tree(), "tree", Q, "x"), (1, (RIGHT, ("node", 0))))
        self.assertEqual(count_at(tree(), "tree", Q, "x", 200), 1)
        self.assertEqual(outer_table(tree(), "tree", LEFT), ((0, None), (1, 0)))
        self.assertEqual(levels_between(tree(), "tree", P, Q), [(199, 399)])
        self.check_trip(tree(), "tree", Q, P, None)
        self.check_trip(tree(), "tree", P, P, 0)

    def test_places_that_are_none(self):
        atlas = tree()
        for place in NO_PLACES:
            self.assertIs(is_place(atlas, "tree", place), False)
            for function, others in (
                (cost_between, ()),
                (best_trip, ()),
                (certificate, ()),
                (bars, (-1, None)),
                (meeting, ()),
                (cost_avoiding, ([(2,)],)),
                (cost_to_depth, (-1,)),
                (levels_between, ()),
            ):
                for pair in ((place, Q), (P, place), (place, place)):
                    with self.assertRaises(BadPlace):
                        function(atlas, "tree", *pair, *others)
            for function, others in (
                (measure_trip, (None,)),
                (nearest, (0,)),
                (count_at, (0, -1)),
                (count_mod, (0, -1, 0)),
            ):
                with self.assertRaises(BadPlace):
                    function(atlas, "tree", place, *others)

    def test_order_of_errors(self):
        for function, others in (
            (cost_between, (FAR, FAR)),
            (best_trip, (FAR, FAR)),
            (certificate, (FAR, FAR)),
            (bars, (FAR, FAR, -1, None)),
            (meeting, (FAR, FAR)),
            (cost_avoiding, (FAR, FAR, None)),
            (cost_to_depth, (FAR, FAR, None)),
            (levels_between, (FAR, FAR)),
            (measure_trip, (FAR, None)),
            (nearest, (FAR, 0)),
            (count_at, (FAR, 0, None)),
            (outer_table, (FAR[0],)),
        ):
            with self.assertRaises(UnknownMap):
                function(tree(), "three", *others)
            with self.assertRaises(BadAtlas):
                function(tree(out=0), "three", *others)
        for address in [place[0] for place in NO_PLACES[:11]]:
            with self.assertRaises(BadAddress):
                outer_table(tree(), "tree", address)
            with self.assertRaises(BadAddress):
                map_at(tree(), "tree", address)
            with self.assertRaises(BadAddress):
                cost_avoiding(tree(), "tree", P, Q, [LEFT, address])

    def test_drawn_costs(self):
        rng = Random(1601)
        turns = 0
        for _ in range(20):
            costs = drawn_costs(rng)
            atlas = tree(**costs)
            through, up, down = tree_levels(costs)
            cost = 199 * up + costs["across"] + 199 * down
            self.check_trip(atlas, "tree", P, Q, cost)
            # No copy in the two at 199 indexes can be used, and so none beside the way there.
            shallow = cost - up - down + costs["up"] + costs["right"]
            turns += shallow != cost
            levels = [(199, shallow)] + ([(200, cost)] if cost != shallow else [])
            self.assertEqual(levels_between(atlas, "tree", P, Q), levels)
            for depth, at_depth in ((198, None), (199, shallow), (200, cost), (201, cost)):
                self.assertEqual(cost_to_depth(atlas, "tree", P, Q, depth), at_depth)
            self.assertEqual(nearest(atlas, "tree", Q, "x"), (costs["down"], (RIGHT, ("node", 0))))
            way_back = (costs["back"] + costs["down"], LEFT, ("node", 0))
            way_across = (costs["across"] + costs["down"], LEFT[1:] + (1,), ("node", 0))
            least = min(way_back, way_across)
            self.assertEqual(nearest(atlas, "tree", P, "x"), (least[0], least[1:]))
            self.assertEqual(outer_table(atlas, "tree", LEFT), ((0, None), (costs["back"], 0)))
        self.assertGreater(turns, 4)

    def test_drawn_costs_without_some_copies(self):
        rng = Random(1602)
        for _ in range(20):
            costs = drawn_costs(rng)
            atlas = tree(**costs)
            _, up, down = tree_levels(costs)
            cost = 199 * up + costs["across"] + 199 * down
            for closed, expected in (
                ([LEFT], cost),
                ([LEFT, RIGHT], cost),
                ([LEFT] * 20, cost),
                ([LEFT[:k] + (1,) for k in range(1, 21)], cost + 20 * (costs["up"] - up)),
                ([RIGHT[:k] + (0,) for k in range(180, 200)], cost + 20 * (costs["right"] - down)),
                ([LEFT[:7] + (1,), RIGHT[:90] + (0, 0)], cost + costs["up"] - up),
                ([LEFT, LEFT[:3] + RIGHT[3:], RIGHT[:3] + LEFT[3:]], cost),
                ([LEFT[:199]], None),
                ([RIGHT[:100]], None),
                ([()], None),
            ):
                self.assertEqual(cost_avoiding(atlas, "tree", P, Q, closed), expected)
                self.assertEqual(cost_avoiding(atlas, "tree", P, P, closed), 0)

    def test_drawn_costs_and_meetings(self):
        rng = Random(1603)
        places = {}
        for _ in range(12):
            costs = drawn_costs(rng)
            atlas = tree(**costs)
            found = copies_to(atlas, "tree", 1, LEFT, RIGHT)
            both = [costs_in(atlas, found, place) for place in (P, Q)]
            ranks = ranked_meetings(found, *both)
            self.assertEqual(meeting(atlas, "tree", P, Q), (ranks[0][0], ranks[0][2:]))
            self.assertEqual(meeting(atlas, "tree", Q, P), (ranks[0][0], ranks[0][2:]))
            places[ranks[0][2:]] = True
        self.assertGreater(len(places), 1)

    def test_counts(self):
        for k in (0, 1, 10, 700):
            self.assertEqual(count_at(tree(), "tree", Q, "x", 200 + k), 2**k)
            self.assertEqual(count_at(tree(), "tree", P, "x", k), 2**k if k else 0)
            self.assertEqual(count_at(tree(), "tree", P, None, 200 + k), 2 ** (200 + k))
        self.assertEqual(count_at(tree(), "tree", Q, "x", 199), 0)
        self.assertEqual(count_mod(tree(), "tree", Q, "x", 10**18, 10**9 - 1), pow(2, 10**18 - 200, 10**9 - 1))
        self.assertEqual(count_mod(tree(), "tree", P, None, 10**18, 10**9 - 1), pow(2, 10**18, 10**9 - 1))

    def test_floors(self):
        """Each floor is the least cost of its place; a floor that is one more than it may be does not hold."""
        rng = Random(1604)
        for _ in range(3):
            atlas = tree(**drawn_costs(rng))
            tables, floors = certificate(atlas, "tree", P, Q)
            self.assertEqual(floors, oracle.spine_costs(atlas, "tree", P, Q))
            cost = floors[Q]
            for place in rng.sample(sorted(floors), 25) + [P, Q]:
                for floor in ([floors[place] + 1] if floors[place] is not None else []) + [-1, True, False, "0"]:
                    changed = {**floors, place: floor}
                    self.assertFalse(bars(atlas, "tree", P, Q, 0, (tables, changed)))
                left_out = {other: floors[other] for other in floors if other != place}
                self.assertFalse(bars(atlas, "tree", P, Q, 0, (tables, left_out)))
                self.assertFalse(bars(atlas, "tree", P, Q, 0, (tables, {**left_out, FAR: 0})))
                self.assertFalse(bars(atlas, "tree", P, Q, 0, (tables, {**floors, FAR: 0})))
            mixed = sorted(floors)
            rng.shuffle(mixed)
            for order in (mixed, list(reversed(list(floors)))):
                self.assertTrue(bars(atlas, "tree", P, Q, cost, (tables, {place: floors[place] for place in order})))
            # Python compares True and 1 as equal.
            equal = {(tuple([bool(s) for s in address]), point): floors[(address, point)] for address, point in floors}
            self.assertTrue(bars(atlas, "tree", P, Q, cost, (tables, equal)))
            self.assertFalse(bars(atlas, "tree", P, Q, cost + 1, (tables, equal)))

    def test_legs(self):
        atlas = tree()
        trip = best_trip(atlas, "tree", P, Q)
        for position in (0, 1, 100, 198, 199, 200, 300, len(trip) - 1):
            address, route = trip[position]
            wrong = [address[:-1], address + (0,), address + (1,), tuple([bool(s) for s in address]), list(address)]
            wrong += [address[:-1] + (address[-1] == 1,), address[1:] + (2,)] if address else [None]
            for leg in [(other, route) for other in wrong if other != () or address] + [(address, route * 2 + [None])]:
                with self.assertRaises(BadTrip) as caught:
                    measure_trip(atlas, "tree", P, trip[:position] + [leg] + trip[position + 1 :])
                self.assertEqual(caught.exception.position, position)
            with self.assertRaises(BadTrip) as caught:
                measure_trip(atlas, "tree", P, trip[:position] + trip[position + 1 :] + [None])
            self.assertEqual(caught.exception.position, position)
            self.assertEqual(measure_trip(atlas, "tree", P, trip[:position])[1:], (position, position))

    def test_ports_that_are_apart(self):
        """Costs that grow further apart from level to level, so that no two levels are alike."""
        rng = Random(1605)
        for _ in range(12):
            atlas = apart(rng, rng.choice([2, 1000000]))
            first, second = random_place(rng, atlas, "apart", 200), random_place(rng, atlas, "apart", 200)
            second = (first[0][: rng.choice([0, 1, 150, 200])] + second[0])[:200], second[1]
            for other in (second, (second[0], first[1])):
                cost = apart_cost(atlas, first, other)
                self.check_trip(atlas, "apart", first, other, cost)
                found = copies_to(atlas, "apart", 0, first[0], other[0])
                ranks = ranked_meetings(found, costs_in(atlas, found, first), costs_in(atlas, found, other))
                expected = (ranks[0][0], ranks[0][2:]) if ranks else None
                self.assertEqual(meeting(atlas, "apart", first, other), expected)

    def test_two_ports_up(self):
        """Of two ways up and down, joined at each level, now the one and now the other costs less."""
        rng = Random(1606)
        for _ in range(8):
            edges = [(("node", 0), ("port", 0), 4), (("port", 0), ("port", 1), 3), (("port", 1), ("port", 0), 5)]
            edges += [(("port", i), ("slot", s, i), rng.randint(1, 9)) for i in range(2) for s in range(3)]
            edges += [(("slot", s, i), ("port", i), rng.randint(1, 9)) for i in range(2) for s in range(3)]
            edges += [(("port", 1), ("node", 0), rng.randint(1, 9))]
            atlas = (("two", 2, ("x",), ("two",) * 3, tuple(sorted(edges))),)
            first, second = random_place(rng, atlas, "two", 200), random_place(rng, atlas, "two", 200)
            found = copies_to(atlas, "two", 0, first[0], second[0])
            both = [costs_in(atlas, found, place) for place in (first, second)]
            self.check_trip(atlas, "two", first, second, both[0][second])
            self.check_trip(atlas, "two", second, first, both[1][first])
            ranks = ranked_meetings(found, *both)
            self.assertEqual(meeting(atlas, "two", first, second), (ranks[0][0], ranks[0][2:]))
            for place, costs in zip((first, second), both):
                ranks = ranked_nodes(found, costs, "x")
                self.assertEqual(nearest(atlas, "two", place, "x"), (ranks[0][0], ranks[0][2:]))
            self.assertEqual(outer_table(atlas, "two", first[0]), oracle.outer_table(atlas, "two", first[0]))

    def test_work(self):
        """What was worked out for one level serves the others: there are few calls of functions for each copy."""
        atlas = tree(2, 3, 4, 5, 6, 7, 8, 9)
        cost = cost_between(atlas, "tree", P, Q)
        trip, paper = best_trip(atlas, "tree", P, Q), certificate(atlas, "tree", P, Q)
        for most, function, *others in (
            (1000, cost_between, P, Q),
            (1000, best_trip, P, Q),
            (399 * 10, measure_trip, P, trip),
            (401 * 5, certificate, P, Q),
            (401 * 12, bars, P, Q, cost, paper),
            (401, bars, P, Q, cost + 1, paper),
            (401 * 8, meeting, Q, P),
            (401 * 6, cost_avoiding, P, Q, [LEFT]),
            (1000, nearest, Q, "x"),
            (201 * 8, count_at, Q, "x", 200),
            (1000, outer_table, LEFT),
        ):
            with self.subTest(function.__name__):
                self.assertLess(many_calls(function, atlas, "tree", *others), most)


if __name__ == "__main__":
    unittest.main()
