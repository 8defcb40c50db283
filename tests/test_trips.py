"""Trips between places: [30] and [31]."""

import unittest
from random import Random

from slotmaps.between import cost_between
from slotmaps.errors import BadAtlas, BadPlace, BadTrip, UnknownMap
from slotmaps.measures import measure
from slotmaps.routes import best_route
from slotmaps.trips import best_trip, measure_trip
from tests import oracle
from tests.expansion import place as place_at
from tests.samples import (
    FULL,
    LOOP,
    ODD_VALUES,
    PORT,
    SLOT,
    UP,
    B,
    E,
    K,
    linked_atlas,
    loop_part,
    loop_route,
    random_atlas,
    random_place,
    random_places,
    random_route,
    random_value,
    turning_atlas,
    winding_atlas,
    with_part_changed,
)

MANY = 10**300
WINDING = winding_atlas()
START = ((), PORT)
NEAR = ((0,), PORT)
PAIR = [loop_part([("edge", 1), ("edge", 0)])]
DOWN = [("o", PORT, SLOT, (("edge", 2),))]
BACK = [("o", SLOT, PORT, (("edge", 3),))]
# Down, around in the copy below, down once more, and up again in two legs.
TRIP = [((), DOWN), ((0,), PAIR), ((0,), DOWN), ((0,), BACK), ((), BACK)]
BAD_PLACES = ODD_VALUES + [
    ((0,) * 201, PORT),
    ((), SLOT),
    ((1,), PORT),
    ((False,), PORT),
    ((), ("port", False)),
    ((), ("node", 1)),
    [(), PORT],
]


class MeasureTripTest(unittest.TestCase):
    def check(self, atlas, root, place, trip, expected):
        before = repr((atlas, place, trip))
        for _ in range(2):
            self.assertEqual(repr(measure_trip(atlas, root, place, trip)), repr(expected))
        self.assertEqual(repr((atlas, place, trip)), before)

    def check_bad(self, atlas, root, place, trip, position):
        with self.assertRaises(BadTrip) as caught:
            measure_trip(atlas, root, place, trip)
        self.assertIs(type(caught.exception), BadTrip)
        self.assertEqual(repr(caught.exception.position), repr(position))

    def test_examples(self):
        self.check(E, "e", ((), ("port", 0)), [((), K)], (((), ("port", 1)), 9, 5))
        trip = best_trip(E, "e", ((0, 0), ("node", 0)), ((), ("port", 1)))
        self.check(E, "e", ((0, 0), ("node", 0)), trip, (((), ("port", 1)), 7, 3))

    def test_no_legs(self):
        for place in (START, NEAR, ((0,) * 200, ("node", 0))):
            self.check(LOOP, "o", place, [], (place, 0, 0))

    def test_some_legs(self):
        self.check(LOOP, "o", START, TRIP, (START, 5 + 5 + 5 + 7 + 7, 6))
        self.check(LOOP, "o", START, TRIP[:3], (((0, 0), PORT), 15, 4))
        self.check(LOOP, "o", NEAR, TRIP[1:2], (NEAR, 5, 2))
        self.check(LOOP, "o", NEAR, TRIP[1:], (START, 24, 5))

    def test_a_place_by_either_of_two_copies(self):
        # The port of the copy at (0,) is a slot point of the copy at (): legs in both start there.
        self.check(LOOP, "o", NEAR, [((0,), PAIR), ((), BACK)], (START, 12, 3))
        self.check(LOOP, "o", NEAR, [((), [("o", SLOT, SLOT, ())]), ((0,), PAIR)], (NEAR, 5, 2))
        self.check_bad(LOOP, "o", NEAR, [((), PAIR)], 0)
        self.check_bad(LOOP, "o", NEAR, [((0, 0), PAIR)], 0)

    def test_unused_parts_of_other_maps(self):
        inner = ("b", ("port", 0), ("port", 1), (("edge", 0),))
        outer = ("a", ("port", 0), ("port", 1), (("edge", 0),))
        self.check(B, "a", ((), ("port", 0)), [((), [inner, outer])], (((), ("port", 1)), 9, 1))
        self.check(B, "a", ((0,), ("port", 0)), [((0,), [outer, inner])], (((0,), ("port", 1)), 3, 1))
        self.check_bad(B, "a", ((), ("port", 0)), [((), [outer, inner])], 0)
        self.check_bad(B, "a", ((0,), ("port", 0)), [((0,), [inner, outer])], 0)

    def test_number_of_legs(self):
        leg = ((), PAIR)
        for many in (1, 2, 499, 500):
            self.check(LOOP, "o", START, [leg] * many, (START, 5 * many, 2 * many))
        for many in (501, 502, 20000):
            self.check_bad(LOOP, "o", START, [leg] * many, 0)
            self.check_bad(LOOP, "o", START, [None] * many, 0)

    def test_two_hundred_indexes(self):
        deep = (0,) * 199
        self.check(LOOP, "o", (deep, PORT), [(deep, DOWN)], ((deep + (0,), PORT), 5, 1))
        self.check(LOOP, "o", (deep + (0,), PORT), [(deep, BACK)], ((deep, PORT), 7, 1))
        deep = (0,) * 200
        self.check(LOOP, "o", (deep, PORT), [(deep, PAIR)], ((deep, PORT), 5, 2))
        self.check_bad(LOOP, "o", (deep, PORT), [(deep, PAIR), (deep, DOWN)], 1)
        self.check_bad(LOOP, "o", (deep, PORT), [(deep, DOWN), (deep, BACK)], 0)
        self.check_bad(LOOP, "o", (deep, PORT), [(deep + (0,), PAIR)], 0)
        # A leg may go deeper in between.
        around = [PAIR[0], loop_part([("edge", 2), ("call", 0, 0), ("edge", 3)])]
        self.check(LOOP, "o", (deep, PORT), [(deep, around)], ((deep, PORT), 17, 4))
        ways = [((0,) * k, DOWN) for k in range(200)]
        self.check(LOOP, "o", START, ways, ((deep, PORT), 1000, 200))
        self.check_bad(LOOP, "o", START, ways + [(deep, DOWN)], 200)

    def test_number_of_steps(self):
        leg = ((), loop_route(MANY))
        cost = measure(LOOP, leg[1])[0]
        self.check(LOOP, "o", NEAR, [leg, leg, leg], (NEAR, 3 * cost, 3 * MANY))
        self.check_bad(LOOP, "o", NEAR, [leg, ((), loop_route(MANY + 2))], 1)

    def test_each_rule_broken(self):
        for position in range(len(TRIP)):
            address, route = TRIP[position]
            name, start, end, items = route[0]
            for leg in (
                [address, route],
                (address,),
                (address, route, ()),
                (route, address),
                address,
                route,
                None,
                (list(address), route),
                (address + (1,), route),
                (address + (0,), route),
                (address + (False,), route),
                (address + (0,) * 201, route),
                (None, route),
                ("", route),
                (address, tuple(route)),
                (address, []),
                (address, route[0]),
                (address, route + [None]),
                (address, [None]),
                (address, [("e", start, end, items)]),
                (address, [(name, start, end, items[:-1])]),
                (address, [(name, start, end, items + (None,))]),
                (address, [(name, ("node", 0), ("node", 0), ())]),
                (address, [(name, start, end, (("edge", True),))]),
            ):
                trip = TRIP[:position] + [leg] + TRIP[position + 1 :]
                self.check_bad(LOOP, "o", START, trip, position)
                self.check_bad(LOOP, "o", START, trip + [None], position)

    def test_legs_that_do_not_meet(self):
        # A leg is left out, so that the next one does not start where the one before it ends.
        for position in (0, 2, 3):
            self.check_bad(LOOP, "o", START, TRIP[:position] + TRIP[position + 1 :], position)
        for place in (NEAR, ((0, 0), PORT), ((), ("node", 0))):
            self.check_bad(LOOP, "o", place, TRIP, 0)
        self.check_bad(LOOP, "o", START, TRIP + [((), BACK)], 5)
        self.check_bad(LOOP, "o", START, [TRIP[0], TRIP[0]], 1)

    def test_no_trips(self):
        for value in [odd for odd in ODD_VALUES if odd != []] + [tuple(TRIP), {0: TRIP[0]}, TRIP[0], [TRIP], K]:
            self.check_bad(LOOP, "o", START, value, 0)

    def test_values_of_any_kind(self):
        rng = Random(701)
        for value in ODD_VALUES + [random_value(rng) for _ in range(1500)]:
            self.check_bad(LOOP, "o", START, [value], 0)
            self.check_bad(LOOP, "o", START, TRIP[:1] + [value], 1)
            if repr(value) != "(0,)":
                self.check_bad(LOOP, "o", START, TRIP[:1] + [(value, PAIR)], 1)
            self.check_bad(LOOP, "o", START, TRIP[:1] + [((0,), value)], 1)
            if value not in ([], TRIP):
                self.check_bad(LOOP, "o", START, value, 0)

    def test_legs_with_parts_changed(self):
        rng = Random(702)
        good = 0
        for _ in range(3000):
            position = rng.randrange(5)
            address, route = TRIP[position]
            leg = with_part_changed((address, tuple(route)), rng)
            if type(leg) is tuple and len(leg) == 2 and type(leg[1]) is tuple:
                leg = (leg[0], list(leg[1]))
            trip = TRIP[:position] + [leg] + TRIP[position + 1 :]
            expected = self.first_bad(trip)
            if expected is None:
                measure_trip(LOOP, "o", START, trip)
                good += 1
            else:
                self.check_bad(LOOP, "o", START, trip, expected)
        self.assertGreater(good, 10)

    def first_bad(self, trip):
        """Return the position of the first leg that is wrong, of a trip from START in LOOP, or None."""
        here = START
        for position, leg in enumerate(trip):
            if type(leg) is not tuple or len(leg) != 2 or type(leg[0]) is not tuple:
                return position
            if [type(s) for s in leg[0]] != [int] * len(leg[0]) or set(leg[0]) - {0}:
                return position
            if oracle.bad_part(LOOP, leg[1]) is not None or place_at(leg[0], leg[1][-1][1]) != here:
                return position
            here = place_at(leg[0], leg[1][-1][2])
        return None

    def test_random_trips(self):
        rng = Random(703)
        longest = 0
        for _ in range(200):
            atlas = linked_atlas(rng)
            root = rng.choice(atlas)[0]
            start = here = random_place(rng, atlas, root, 3)
            trip, cost, steps = [], 0, 0
            for _ in range(60):
                # In the copy of the place, or for a port in the copy around it.
                address, point = here
                if point[0] == "port" and address and rng.random() < 0.5:
                    address, point = address[:-1], ("slot", address[-1], point[1])
                route = random_route(rng, atlas, rng.randint(1, 4), 3)
                name = root
                for s in address:
                    name = [chart for chart in atlas if chart[0] == name][0][3][s]
                if route[-1][0] != name or route[-1][1] != point:
                    self.check_bad(atlas, root, start, trip + [(address, route)], len(trip))
                    continue
                trip.append((address, route))
                cost, steps = cost + measure(atlas, route)[0], steps + measure(atlas, route)[1]
                here = place_at(address, route[-1][2])
            self.check(atlas, root, start, trip, (here, cost, steps))
            longest = max(longest, len(trip))
        self.assertGreater(longest, 5)

    def test_order_of_errors(self):
        for value in BAD_PLACES:
            with self.assertRaises(BadPlace):
                measure_trip(LOOP, "o", value, None)
        with self.assertRaises(UnknownMap):
            measure_trip(LOOP, "p", None, None)
        with self.assertRaises(BadAtlas):
            measure_trip((), "p", None, None)


class BestTripTest(unittest.TestCase):
    def check(self, atlas, root, first, second):
        """The trip has the least cost and is accepted; there is none where there is no path."""
        before = repr((atlas, first, second))
        trip = best_trip(atlas, root, first, second)
        self.assertEqual(repr((atlas, first, second)), before)
        self.assertEqual(best_trip(atlas, root, first, second), trip)
        expected = cost_between(atlas, root, first, second)
        if expected is None:
            self.assertIsNone(trip)
            return None
        self.assertLessEqual(len(trip), 500)
        place, cost, _ = measure_trip(atlas, root, first, trip)
        self.assertEqual((place, cost), (second, expected))
        return trip

    def test_example(self):
        self.check(E, "e", ((0, 0), ("node", 0)), ((), ("port", 1)))
        self.assertIsNone(self.check(E, "e", ((), ("port", 1)), ((0, 0), ("node", 0))))

    def test_the_same_place(self):
        for place in (START, NEAR, ((0,) * 200, ("node", 0))):
            trip = self.check(LOOP, "o", place, place)
            self.assertEqual(measure_trip(LOOP, "o", place, trip), (place, 0, 0))

    def test_up_and_down_again(self):
        for first, second in (
            (((0,), ("port", 0)), ((1,), ("port", 1))),
            (((0,), ("node", 0)), ((1,), ("node", 1))),
            (((0, 0), ("node", 0)), ((1,), ("node", 1))),
            (((0,) * 200, ("node", 0)), ((0,) * 199 + (1,), ("node", 1))),
            (((0,) * 200, ("node", 0)), ((1,), ("node", 1))),
        ):
            self.assertTrue(self.check(UP, "u", first, second))
        self.assertIsNone(self.check(UP, "u", ((1,), ("node", 1)), ((0,), ("node", 0))))

    def test_drawn_places(self):
        rng = Random(711)
        counts = {True: 0, False: 0}
        for k in range(120):
            if k % 3 == 0:
                atlas = random_atlas(rng, most_maps=4)
            elif k % 3 == 1:
                atlas = turning_atlas(rng)
            else:
                atlas = linked_atlas(rng, most_cost=rng.choice([1, 1000000]), most_ports=4)
            root = rng.choice(atlas)[0]
            for _ in range(6):
                counts[self.check(atlas, root, *random_places(rng, atlas, root, 5)) is None] += 1
        self.assertGreater(min(counts.values()), 150)

    def test_two_hundred_indexes(self):
        deep = (0,) * 200
        trip = self.check(LOOP, "o", (deep, ("node", 0)), ((), ("node", 0)))
        self.assertEqual(measure_trip(LOOP, "o", (deep, ("node", 0)), trip)[1], 2 + 200 * 7 + 3)
        self.check(LOOP, "o", ((), ("node", 0)), (deep, ("node", 0)))
        # Up two hundred levels and down two hundred: the way between them leads through the root alone.
        both = (("r", 1, ("x",), ("r", "r"), (
            (("node", 0), ("port", 0), 1),
            (("port", 0), ("node", 0), 1),
            (("port", 0), ("slot", 0, 0), 2),
            (("port", 0), ("slot", 1, 0), 3),
            (("slot", 0, 0), ("port", 0), 5),
            (("slot", 1, 0), ("port", 0), 7),
        )),)
        first, second = ((0,) * 200, ("node", 0)), ((1,) * 200, ("node", 0))
        trip = self.check(both, "r", first, second)
        self.assertEqual(measure_trip(both, "r", first, trip), (second, 2 + 200 * 5 + 200 * 3, 402))
        trip = self.check(both, "r", second, first)
        self.assertEqual(measure_trip(both, "r", second, trip), (first, 2 + 200 * 7 + 200 * 2, 402))
        rng = Random(712)
        for _ in range(10):
            atlas = linked_atlas(rng, most_cost=1000000, most_ports=4)
            root = rng.choice(atlas)[0]
            first, second = random_place(rng, atlas, root, 200), random_place(rng, atlas, root, 200)
            self.check(atlas, root, first, second)
            self.check(atlas, root, (first[0][:100], ("port", 0)), first)
            self.check(atlas, root, first, (first[0][:190], ("port", 0)))

    def test_ports_of_the_root(self):
        for name in "abh":
            for i in range(4):
                for j in range(4):
                    trip = self.check(WINDING, name, ((), ("port", i)), ((), ("port", j)))
                    route = best_route(WINDING, name, ("port", i), ("port", j))
                    cost = measure(WINDING, route)[:2]
                    self.assertEqual(measure_trip(WINDING, name, ((), ("port", i)), trip)[1:], cost)

    def test_legs_belong_to_the_caller(self):
        deep = ((0,) * 5, ("node", 0))
        trip = best_trip(LOOP, "o", ((), PORT), deep)
        for _, route in trip:
            before = [len(other) for _, other in trip]
            route.append(None)
            after = [len(other) for _, other in trip]
            self.assertEqual(sum(after), sum(before) + 1)
        self.check(LOOP, "o", ((), PORT), deep)

    def test_bad_places(self):
        good = ((), PORT)
        for value in BAD_PLACES:
            for first, second in ((value, good), (good, value), (value, value)):
                with self.assertRaises(BadPlace):
                    best_trip(LOOP, "o", first, second)
        with self.assertRaises(UnknownMap):
            best_trip(FULL, "o", None, None)
        with self.assertRaises(BadAtlas):
            best_trip({}, "o", None, None)


if __name__ == "__main__":
    unittest.main()
