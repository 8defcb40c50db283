"""Certificates: [32] and [33], and the main guarantee of [2]."""

import unittest
from random import Random

from slotmaps.between import cost_between
from slotmaps.certificates import bars, certificate
from slotmaps.errors import BadAtlas, BadCost, BadPlace, UnknownMap
from slotmaps.tables import port_tables
from slotmaps.trips import best_trip, measure_trip
from tests import oracle
from tests.samples import (
    FULL,
    LOOP,
    ODD_VALUES,
    UP,
    B,
    E,
    linked_atlas,
    random_atlas,
    random_place,
    random_places,
    random_value,
    turning_atlas,
)

P, Q = ((), ("port", 0)), ((), ("port", 1))
INNER, NODE = ((0,), ("node", 0)), ((), ("node", 0))
BAD_COSTS = [-1, -(10**399), True, False, "0", "", (), (0,), [], [None], {}]


def drawn_atlas(rng):
    kind = rng.randrange(3)
    if kind == 0:
        return random_atlas(rng, most_maps=4, most_cost=rng.choice([1, 9, 1000000]))
    if kind == 1:
        return turning_atlas(rng)
    return linked_atlas(rng, most_cost=rng.choice([1, 3, 1000000]), most_ports=4)


def holds(atlas, root, first, second, value):
    """Return whether the value is a certificate, by the words of [32]; its floors have the spine places as keys."""
    tables, floors = value
    if not oracle.is_supporting(atlas, tables) or floors[first] != 0:
        return False
    if not all(floor is None or (type(floor) is int and floor >= 0) for floor in floors.values()):
        return False
    found = oracle.spine(atlas, root, [first[0], second[0]])
    for source, target, cost in oracle.spine_ways(atlas, found, tables):
        if floors[source] is not None and (floors[target] is None or floors[target] > floors[source] + cost):
            return False
    return True


class CertificateTest(unittest.TestCase):
    def check(self, atlas, root, first, second):
        """The certificate bars all costs up to the least one and nothing greater."""
        before = repr((atlas, first, second))
        value = certificate(atlas, root, first, second)
        self.assertEqual(repr((atlas, first, second)), before)
        self.assertIs(type(value), tuple)
        tables, floors = value
        self.assertEqual(tables, port_tables(atlas))
        self.assertEqual(sorted(floors), sorted(oracle.spine_places(atlas, self.spine(atlas, root, first, second))))
        self.assertTrue(holds(atlas, root, first, second, value))
        cost = cost_between(atlas, root, first, second)
        self.assertEqual(repr(floors[second]), repr(cost))
        accepted = [0, 1, 10**399, None] if cost is None else [0, cost // 2, max(0, cost - 1), cost]
        refused = [] if cost is None else [cost + 1, cost + 10**9, 10**399, None]
        for barred in accepted + refused:
            self.assertIs(bars(atlas, root, first, second, barred, value), barred in accepted)
        return value

    def spine(self, atlas, root, first, second):
        return oracle.spine(atlas, root, [first[0], second[0]])

    def test_example(self):
        paper = self.check(E, "e", P, Q)
        self.assertEqual([bars(E, "e", P, Q, cost, paper) for cost in (6, 7, None)], [True, False, False])

    def test_no_path(self):
        self.check(E, "e", Q, P)
        self.check(UP, "u", ((1,), ("node", 1)), ((0,), ("node", 0)))
        self.check(B, "a", ((0,), ("port", 1)), ((0,), ("port", 0)))

    def test_the_same_place(self):
        for atlas, root, place in ((E, "e", P), (E, "e", ((0,) * 3, ("node", 0))), (UP, "u", ((1, 0), ("node", 1)))):
            self.check(atlas, root, place, place)

    def test_drawn_places(self):
        rng = Random(801)
        counts = {True: 0, False: 0}
        for _ in range(120):
            atlas = drawn_atlas(rng)
            root = rng.choice(atlas)[0]
            for _ in range(3):
                first, second = random_places(rng, atlas, root, 4)
                value = self.check(atlas, root, first, second)
                self.assertEqual(value[1], oracle.spine_costs(atlas, root, first, second))
                counts[value[1][second] is None] += 1
        self.assertGreater(min(counts.values()), 60)

    def test_two_hundred_indexes(self):
        deep = (0,) * 200
        self.check(LOOP, "o", (deep, ("node", 0)), ((), ("node", 0)))
        self.check(LOOP, "o", ((), ("node", 0)), (deep, ("node", 0)))
        self.check(UP, "u", ((0,) * 200, ("node", 0)), ((0,) * 150 + (1,) + (0,) * 49, ("node", 1)))
        rng = Random(802)
        for _ in range(3):
            atlas = linked_atlas(rng, most_cost=1000000, most_ports=4)
            root = rng.choice(atlas)[0]
            self.check(atlas, root, random_place(rng, atlas, root, 200), random_place(rng, atlas, root, 200))

    def test_main_guarantee(self):
        """There is a trip of least cost and a certificate that bars every lower cost, or a certificate for None."""
        rng = Random(803)
        for _ in range(60):
            atlas = drawn_atlas(rng)
            root = rng.choice(atlas)[0]
            first, second = random_places(rng, atlas, root, 6)
            trip = best_trip(atlas, root, first, second)
            value = certificate(atlas, root, first, second)
            if trip is None:
                self.assertTrue(bars(atlas, root, first, second, None, value))
            else:
                place, cost, _ = measure_trip(atlas, root, first, trip)
                self.assertEqual(place, second)
                self.assertTrue(bars(atlas, root, first, second, cost, value))
                self.assertFalse(bars(atlas, root, first, second, cost + 1, value))

    def test_new_at_each_call(self):
        tables, floors = certificate(E, "e", P, Q)
        tables.clear()
        floors.clear()
        self.check(E, "e", P, Q)

    def test_order_of_errors(self):
        for value in ODD_VALUES + [((0,) * 201, ("port", 0)), ((0,), ("slot", 0, 0)), ((False,), ("port", 0))]:
            for first, second in ((value, P), (P, value), (value, value)):
                with self.assertRaises(BadPlace):
                    certificate(E, "e", first, second)
                with self.assertRaises(BadPlace):
                    bars(E, "e", first, second, -1, None)
        for value in BAD_COSTS:
            with self.assertRaises(BadCost):
                bars(E, "e", P, Q, value, None)
            with self.assertRaises(BadCost):
                bars(E, "e", P, Q, value, certificate(E, "e", P, Q))
        for function, rest in ((certificate, ()), (bars, (-1, None))):
            with self.assertRaises(UnknownMap):
                function(E, "f", None, None, *rest)
            with self.assertRaises(BadAtlas):
                function([], "f", None, None, *rest)


class BarsTest(unittest.TestCase):
    def check(self, first, second, cost, value, expected, atlas=E, root="e"):
        before = repr(value)
        self.assertIs(bars(atlas, root, first, second, cost, value), expected, before[:300])
        self.assertEqual(repr(value), before)

    def paper(self, first=P, second=Q, **changes):
        """Return a certificate in E with some floors changed, by keys p, q, i (a node below), n (the node)."""
        tables, floors = certificate(E, "e", first, second)
        floors.update({{"p": P, "q": Q, "i": INNER, "n": NODE}[word]: floor for word, floor in changes.items()})
        return tables, floors

    def test_floors_of_the_example(self):
        tables, floors = self.paper()
        expected = {P: 0, NODE: 1, Q: 6, ((0,), ("port", 0)): 2, ((0,), ("port", 1)): 8}
        self.assertEqual(floors, expected)

    def test_floor_of_the_first_place(self):
        self.check(P, Q, 0, self.paper(), True)
        for floor in (1, None, 10**399):
            self.check(P, Q, 0, self.paper(p=floor), False)

    def test_floors_by_edges(self):
        # Along an edge a floor rises by at most the cost of the edge.
        for word, floor, expected in (
            ("n", 0, False),
            ("n", 2, False),
            ("n", None, False),
            ("q", 5, True),
            ("q", 0, True),
            ("q", 7, False),
            ("q", None, False),
        ):
            self.check(P, Q, 0, self.paper(**{word: floor}), expected)
        self.check(P, Q, 5, self.paper(q=5), True)
        self.check(P, Q, 6, self.paper(q=5), False)

    def test_floors_by_tables(self):
        # The copy at (0,) is not of the spine: between its ports, floors rise by at most 6.
        for floor, expected in ((8, True), (7, True), (5, True), (9, False), (None, False), (0, False)):
            tables, floors = self.paper()
            floors[((0,), ("port", 1))] = floor
            # From this port an edge of cost 1 leads to port 1, with the floor 6.
            self.check(P, Q, 0, (tables, floors), expected)
        tables, floors = self.paper()
        floors[((0,), ("port", 1))] = 2
        floors[Q] = 3
        for entry, expected in ((0, True), (2, True), (3, True), (6, True), (7, False), (None, False)):
            self.check(P, Q, 3, ({"e": ((0, entry), (None, 0))}, floors), expected)
        # With an entry 5 a floor may rise by 5 alone.
        for entry, floor, expected in ((5, 7, True), (5, 8, False), (6, 8, True), (3, 6, False)):
            tables, floors = self.paper()
            floors[((0,), ("port", 1))] = floor
            self.check(P, Q, 6, ({"e": ((0, entry), (None, 0))}, floors), expected)

    def test_a_copy_of_the_spine_has_its_own_floors(self):
        # With the copy at (0,) in the spine, its edges count, and the table counts for the copy at (0, 0).
        tables, floors = certificate(E, "e", P, INNER)
        self.assertEqual(floors[INNER], 3)
        self.check(P, INNER, 3, (tables, floors), True)
        self.check(P, INNER, 3, (tables, {**floors, ((0,), ("port", 1)): 9}), False)
        self.check(P, INNER, 3, (tables, {**floors, ((0, 0), ("port", 1)): 11}), False)
        self.check(P, INNER, 3, (tables, {**floors, ((0, 0), ("port", 1)): 9}), True)
        self.check(P, INNER, 3, (tables, {**floors, INNER: 4}), False)
        # With a table that allows less, the floors of the ports of the copy at (0, 0) are too far apart.
        self.check(P, INNER, 3, ({"e": ((0, 0), (0, 0))}, floors), False)

    def test_tables_do_not_count_for_copies_of_the_spine(self):
        # The entry 3 bounds the floors of the ports of the copy at (0, 0), but not of the copy at (0,): 2 and 8.
        tables = {"e": ((0, 3), (None, 0))}
        _, floors = certificate(E, "e", P, INNER)
        floors[((0, 0), ("port", 1))] = 7
        self.assertEqual((floors[((0,), ("port", 0))], floors[((0,), ("port", 1))]), (2, 8))
        self.check(P, INNER, 3, (tables, floors), True)
        self.check(P, INNER, 3, (tables, {**floors, ((0, 0), ("port", 1)): 8}), False)
        self.check(P, INNER, 3, (tables, {**floors, ((0,), ("port", 1)): 9}), False)

    def test_tables_that_are_not_supporting(self):
        _, floors = self.paper()
        for tables in (
            {"e": ((0, 7), (None, 0))},
            {"e": ((0, None), (None, 0))},
            {"e": ((0, 6), (None, 1))},
            {"e": ((0, 6),)},
            {"e": [(0, 6), (None, 0)]},
            {"e": ((0, 6), (None, 0)), "f": ()},
            {},
            None,
            [],
            "e",
        ):
            self.check(P, Q, 0, (tables, floors), False)
            self.check(P, Q, 0, (tables, {place: 0 for place in floors}), False)

    def test_lowered_floors(self):
        tables, floors = self.paper()
        nothing = {place: 0 for place in floors}
        self.check(P, Q, 0, (tables, nothing), True)
        self.check(P, Q, 1, (tables, nothing), False)
        for cost in range(7):
            self.check(P, Q, cost, (tables, {place: min(floor, cost) for place, floor in floors.items()}), True)
            lower = {place: min(floor, cost) for place, floor in floors.items()}
            self.check(P, Q, cost + 1, (tables, lower), False)

    def test_floors_of_none(self):
        # From port 1 nothing can be reached; a floor may still be an integer.
        tables, floors = certificate(E, "e", Q, P)
        self.assertEqual([floor for place, floor in floors.items() if place != Q], [None] * 4)
        self.check(Q, P, None, (tables, floors), True)
        self.check(Q, P, 10**399, (tables, floors), True)
        some = {place: 100 for place in floors}
        some[Q] = 0
        self.check(Q, P, 100, (tables, some), True)
        self.check(Q, P, 101, (tables, some), False)
        self.check(Q, P, None, (tables, some), False)
        # An edge from an integer to None breaks the rule; only to port 0 of the root copy there is no edge.
        for place in floors:
            if place != Q:
                self.check(Q, P, 0, (tables, {**some, place: None}), place == P)

    def test_values_of_floors(self):
        for floor in (True, False, -1, "0", "", (), [], {}, (0,), -(10**399)):
            for word in ("p", "q", "n"):
                self.check(P, Q, 0, self.paper(**{word: floor}), False)
            tables, floors = self.paper()
            floors[((0,), ("port", 1))] = floor
            self.check(P, Q, 0, (tables, floors), False)

    def test_keys_of_floors(self):
        tables, floors = self.paper()
        for place in floors:
            self.check(P, Q, 0, (tables, {other: floors[other] for other in floors if other != place}), False)
        for more in (INNER, ((0, 0), ("port", 0)), ((), ("slot", 0, 0)), None, 0, (), "e", ((1,), ("port", 0))):
            self.check(P, Q, 0, (tables, {**floors, more: 0}), False)
            for place in floors:
                moved = {other: floors[other] for other in floors if other != place}
                self.check(P, Q, 0, (tables, {**moved, more: floors[place]}), False)

    def test_keys_that_are_equal_as_python_compares_them(self):
        tables, floors = self.paper()
        other = {
            ((), ("port", False)): 0,
            ((), ("node", False)): 1,
            ((), ("port", True)): 6,
            ((False,), ("port", 0)): 2,
            ((0,), ("port", True)): 8,
        }
        self.assertEqual(floors, other)
        self.check(P, Q, 6, (tables, other), True)
        self.check(P, Q, 7, (tables, other), False)

    def test_order_of_keys(self):
        tables, floors = self.paper()
        self.check(P, Q, 6, (tables, {place: floors[place] for place in reversed(list(floors))}), True)

    def test_values_of_another_form(self):
        tables, floors = self.paper()
        for value in (
            [tables, floors],
            (tables,),
            (tables, floors, None),
            (floors, tables),
            (tables, list(floors.items())),
            (tables, tuple(floors.items())),
            (tables, None),
            (tables, {}),
            (tables, tables),
            (floors, floors),
            tables,
            floors,
            {0: tables, 1: floors},
        ):
            self.check(P, Q, 0, value, False)
            self.check(P, Q, None, value, False)

    def test_values_of_any_kind(self):
        rng = Random(811)
        tables, floors = self.paper()
        for value in ODD_VALUES + [random_value(rng) for _ in range(1500)]:
            for whole in (value, (tables, value), (value, floors), (value, value), ({"e": value}, floors)):
                self.check(P, Q, 0, whole, False)
        for value in ODD_VALUES:
            if value is not None:
                self.check(P, Q, 0, (tables, {**floors, Q: value}), False)

    def test_a_certificate_for_other_places(self):
        for first, second in ((Q, P), (P, INNER), (INNER, Q), (NODE, Q)):
            value = certificate(E, "e", first, second)
            self.check(P, Q, 0, value, False)
        # A certificate from the same place serves for another place of the same spine.
        value = certificate(E, "e", P, NODE)
        self.check(P, Q, 6, value, True)
        self.check(P, Q, 7, value, False)

    def test_entries_and_floors_changed(self):
        rng = Random(812)
        counts = {True: 0, False: 0}
        for _ in range(150):
            atlas = drawn_atlas(rng)
            root = rng.choice(atlas)[0]
            first, second = random_places(rng, atlas, root, 3)
            tables, floors = certificate(atlas, root, first, second)
            for _ in range(10):
                other = dict(floors)
                top = rng.choice([None, None, 0, 1, 5, 100])
                if top is not None:
                    other = {place: top if floor is None else min(floor, top) for place, floor in floors.items()}
                for _ in range(rng.randint(0, 2)):
                    place = rng.choice(list(floors))
                    floor = other[place]
                    other[place] = rng.choice([None, 0, (floor or 0) + 1, max(0, (floor or 0) - 1), 10**399])
                value = (tables, other)
                expected = holds(atlas, root, first, second, value)
                floor = other[second]
                for cost in (0, 3, floor, None):
                    high = expected and (floor is None or (cost is not None and cost <= floor))
                    self.check(first, second, cost, value, high, atlas, root)
                counts[expected] += 1
        self.assertGreater(min(counts.values()), 300)

    def test_accepted_values_are_right(self):
        """Whatever is accepted bars no more than the least cost."""
        rng = Random(813)
        accepted = 0
        for _ in range(150):
            atlas = linked_atlas(rng)
            root = rng.choice(atlas)[0]
            first, second = random_places(rng, atlas, root, 2)
            tables, floors = certificate(atlas, root, first, second)
            cost = cost_between(atlas, root, first, second)
            if cost is None:
                continue
            for _ in range(10):
                other = {
                    place: rng.choice([floor, floor, floor, 0, None if floor is None else floor + 1])
                    for place, floor in floors.items()
                }
                self.check(first, second, cost + 1, (tables, other), False, atlas, root)
                accepted += bars(atlas, root, first, second, 0, (tables, other))
        self.assertGreater(accepted, 20)

    def test_full_atlas(self):
        rng = Random(814)
        root = FULL[0][0]
        for _ in range(10):
            first, second = random_places(rng, FULL, root, 5)
            value = certificate(FULL, root, first, second)
            self.check(first, second, cost_between(FULL, root, first, second), value, True, FULL, root)


if __name__ == "__main__":
    unittest.main()
