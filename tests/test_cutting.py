"""Slices of routes and routes joined: [26] and [27]."""

import unittest
from random import Random

from slotmaps.cutting import join_routes, slice_route
from slotmaps.errors import BadAtlas, BadRoute, BadStep, NotInside, NotJoined, TooLarge
from slotmaps.measures import measure
from slotmaps.reading import cost_at, point_at
from tests import oracle
from tests.samples import (
    LOOP,
    ODD_VALUES,
    PORT,
    SLOT,
    B,
    E,
    K,
    linked_atlas,
    loop_chain,
    loop_part,
    loop_route,
    random_route,
)

MANY = 10**300
BAD_STEPS = [-1, True, False, None, "0", (), (0,), [], {}, 10**399]
PAIR = loop_part([("edge", 1), ("edge", 0)])
STILL = loop_part([])
# The path of the last part is at the slot's port in the middle of calls, and deeper in between.
TURNS = [
    PAIR,
    loop_part([("edge", 1), ("edge", 0), ("edge", 2), ("call", 0, 0), ("call", 0, 0), ("edge", 3), ("edge", 1), ("edge", 0)]),
    STILL,
    loop_part([("edge", 2), ("call", 0, 2), ("call", 0, 1), ("call", 0, 0), ("call", 0, 2), ("call", 0, 1), ("edge", 3)]),
]
IN_SLOT = TURNS + [("o", SLOT, SLOT, (("call", 0, 1), ("call", 0, 3), ("call", 0, 2), ("call", 0, 1)))]


def point_of(place):
    """Return the point, of the copy of a route itself, that a relative place is, or None if it lies deeper."""
    address, point = place
    if not address:
        return point
    if len(address) == 1 and point[0] == "port":
        return ("slot", address[0], point[1])
    return None


def one_call(many):
    """Return a route of LOOP of so many steps, in one item, from the slot's port to itself; many is even."""
    inner = loop_route(many - 2)
    parts = inner[:-1] + [loop_part([("edge", 2)] + list(inner[-1][3]) + [("edge", 3)])]
    return parts + [("o", SLOT, SLOT, (("call", 0, len(parts) - 1),))]


class SliceTest(unittest.TestCase):
    def check_all(self, atlas, route):
        """Every pair of step numbers gives just those steps, or NotInside."""
        before = list(route)
        listed = oracle.listed_steps(route)
        places, costs = oracle.walked(atlas, route)
        inside = 0
        for t in range(len(places)):
            for u in range(t, len(places)):
                points = (point_of(places[t]), point_of(places[u]))
                if None in points:
                    with self.assertRaises(NotInside):
                        slice_route(atlas, route, t, u)
                    continue
                found = slice_route(atlas, route, t, u)
                self.assertEqual(oracle.listed_steps(found), listed[t:u])
                self.assertEqual(found[-1][:3], (route[-1][0],) + points)
                self.assertEqual(measure(atlas, found)[:2], (costs[u] - costs[t], u - t))
                self.assertLessEqual(len(found), len(route) + 2)
                self.assertLessEqual(len(found[-1][3]), len(route[-1][3]))
                inside += 1
        self.assertEqual(route, before)
        return inside

    def test_examples(self):
        self.assertEqual(measure(E, slice_route(E, K, 1, 4)), (7, 3, 1))
        # Five of the six places are those of points of the copy of the route: the node of the inner copy is deeper.
        self.assertEqual(self.check_all(E, K), 15)

    def test_middle_of_calls(self):
        self.assertGreater(self.check_all(LOOP, TURNS), 40)
        self.assertGreater(self.check_all(LOOP, IN_SLOT), 30)
        inner = slice_route(LOOP, IN_SLOT, 2, 8)
        self.assertEqual(inner[-1][:3], ("o", SLOT, SLOT))
        self.assertEqual(measure(LOOP, inner)[1], 6)
        self.assertEqual(measure(LOOP, slice_route(LOOP, IN_SLOT, 2, 2)), (0, 0, 0))

    def test_random_routes(self):
        rng = Random(501)
        inside = 0
        for _ in range(150):
            atlas = linked_atlas(rng)
            route = random_route(rng, atlas, rng.randint(1, 8), rng.randint(1, 6))
            if measure(atlas, route)[1] <= 40:
                inside += self.check_all(atlas, route)
        self.assertGreater(inside, 500)

    def test_routes_without_steps(self):
        for route in ([STILL], [STILL, ("o", SLOT, SLOT, (("call", 0, 0),) * 200)]):
            self.check_all(LOOP, route)
            found = slice_route(LOOP, route, 0, 0)
            self.assertEqual(measure(LOOP, found), (0, 0, 0))

    def test_slices_of_slices(self):
        rng = Random(502)
        for _ in range(40):
            route, start, end = IN_SLOT, 0, measure(LOOP, IN_SLOT)[1]
            listed = oracle.listed_steps(route)
            for _ in range(4):
                places, _ = oracle.walked(LOOP, route)
                inside = [k for k in range(len(places)) if point_of(places[k]) is not None]
                t, u = sorted([rng.choice(inside), rng.choice(inside)])
                route = slice_route(LOOP, route, t, u)
                start, end = start + t, start + u
                self.assertEqual(oracle.listed_steps(route), listed[start:end])

    def test_two_hundred_items(self):
        route = [PAIR, TURNS[1], ("o", SLOT, SLOT, (("call", 0, 1),) * 200)]
        steps = measure(LOOP, route)[1]
        self.assertEqual(steps, 2000)
        for t, u in ((0, steps), (2, steps - 2), (10, steps - 2), (2, steps - 10), (2, 8), (8, 12), (1000, 1000)):
            found = slice_route(LOOP, route, t, u)
            self.assertEqual(oracle.listed_steps(found), oracle.listed_steps(route)[t:u])
            self.assertLessEqual(len(found[-1][3]), 200)
            self.assertLessEqual(len(found), 5)

    def test_great_routes(self):
        """Cut in the middle of a call of a part that comes back to its port between great calls."""
        tower = loop_route(MANY // 2 - 1000)
        turns = []
        marks = [0]
        for item in tower[-1][3]:
            turns += [("edge", 2), item, ("edge", 3)]
            marks.append(marks[-1] + measure(LOOP, tower[: item[2] + 1])[1] + 2)
        route = tower[:-1] + [loop_part(turns[:198])]
        route += [("o", SLOT, SLOT, (("call", 0, len(route) - 1),) * 2)]
        half = measure(LOOP, route)[1] // 2
        marks = [mark for mark in marks if mark <= half]
        self.assertGreater(half, MANY // 3)
        self.assertGreater(len(marks), 60)
        for t in (marks[1], marks[5], marks[-2], half, half + marks[3]):
            for u in (t, half + marks[3], half + marks[-3], 2 * half):
                if t > u:
                    with self.assertRaises(BadStep):
                        slice_route(LOOP, route, t, u)
                    continue
                found = slice_route(LOOP, route, t, u)
                cost, steps, _ = measure(LOOP, found)
                self.assertEqual((cost, steps), (cost_at(LOOP, route, u) - cost_at(LOOP, route, t), u - t))
                self.assertEqual(found[-1][:3], ("o", SLOT, SLOT))
                self.assertLessEqual(len(found), len(route) + 2)
                self.assertLessEqual(len(found[-1][3]), 2)
                for step in (0, steps // 2, steps):
                    self.assertEqual(point_at(LOOP, found, step), point_at(LOOP, route, t + step))
            with self.assertRaises(NotInside):
                slice_route(LOOP, route, t + 2, 2 * half)
            with self.assertRaises(NotInside):
                slice_route(LOOP, route, 0, t - 2)

    def test_not_inside(self):
        route = loop_chain(5)
        for t, u in ((2, 5), (0, 2), (5, 5), (3, 8), (2, 10)):
            with self.assertRaises(NotInside):
                slice_route(LOOP, route, t, u)
        self.assertEqual(slice_route(LOOP, route, 1, 9)[-1][:3], ("o", SLOT, SLOT))

    def test_parts_up_to_nine_hundred(self):
        for many in (899, 900):
            route = [PAIR] * (many - 2) + IN_SLOT[-4:-3] + [("o", SLOT, SLOT, (("call", 0, many - 2),))]
            route[-2] = loop_part([("edge", 1), ("edge", 0)] * 3)
            found = slice_route(LOOP, route, 2, 4)
            self.assertEqual(measure(LOOP, found), (5, 2, 1))
            self.assertLessEqual(len(found), many + 2)
        chain = loop_chain(901)
        for t, u in ((0, 0), (0, 1), (1, 1801), (0, 1802)):
            with self.assertRaises(TooLarge):
                slice_route(LOOP, chain, t, u)
            if u < 1801:
                self.assertEqual(measure(LOOP, slice_route(LOOP, chain[:900], t, u))[1], u - t)

    def test_order_of_errors(self):
        chain = loop_chain(901)
        for t, u in ((2, 5), (0, 2), (2, 1802)):
            with self.assertRaises(NotInside):
                slice_route(LOOP, chain, t, u)
        for value in BAD_STEPS + [1803]:
            for t, u in ((value, 5), (0, value), (value, value), (2, value)):
                with self.assertRaises(BadStep):
                    slice_route(LOOP, chain, t, u)
        with self.assertRaises(BadStep):
            slice_route(LOOP, chain, 5, 2)
        with self.assertRaises(BadStep):
            slice_route(E, K, 2, 1)
        with self.assertRaises(BadRoute) as caught:
            slice_route(LOOP, chain + [None], 5, 2)
        self.assertEqual(caught.exception.position, 901)
        for value in [odd for odd in ODD_VALUES if odd != K]:
            with self.assertRaises(BadRoute) as caught:
                slice_route(E, value, None, None)
            self.assertEqual(caught.exception.position, 0)
        with self.assertRaises(BadAtlas):
            slice_route(None, None, None, None)

    def test_new_at_each_call(self):
        found = slice_route(E, K, 0, 5)
        found.clear()
        self.assertEqual(measure(E, K), (9, 5, 1))
        self.assertEqual(measure(E, slice_route(E, K, 0, 5)), (9, 5, 1))


class JoinTest(unittest.TestCase):
    def check(self, atlas, first, second):
        before = (list(first), list(second))
        found = join_routes(atlas, first, second)
        self.assertEqual((first, second), before)
        self.assertEqual(oracle.listed_steps(found), oracle.listed_steps(first) + oracle.listed_steps(second))
        self.assertEqual(found[-1][:3], first[-1][:2] + second[-1][2:3])
        sums = [a + b for a, b in zip(measure(atlas, first)[:2], measure(atlas, second)[:2])]
        self.assertEqual(list(measure(atlas, found)[:2]), sums)
        self.assertLessEqual(len(found), len(first) + len(second))
        self.assertLessEqual(len(found[-1][3]), len(first[-1][3]) + len(second[-1][3]))
        return found

    def test_example(self):
        found = join_routes(E, slice_route(E, K, 0, 1), slice_route(E, K, 1, 5))
        self.assertEqual(measure(E, found), (9, 5, 1))

    def test_slices_joined_again(self):
        for atlas, route in ((E, K), (LOOP, TURNS), (LOOP, IN_SLOT)):
            places, _ = oracle.walked(atlas, route)
            end = len(places) - 1
            for t in range(end + 1):
                if point_of(places[t]) is not None:
                    found = self.check(atlas, slice_route(atlas, route, 0, t), slice_route(atlas, route, t, end))
                    self.assertEqual(oracle.listed_steps(found), oracle.listed_steps(route))

    def test_random_routes(self):
        rng = Random(511)
        joined = 0
        for _ in range(1500):
            atlas = linked_atlas(rng, most_maps=2)
            first = random_route(rng, atlas, rng.randint(1, 6), rng.randint(0, 4))
            second = random_route(rng, atlas, rng.randint(1, 6), rng.randint(0, 4))
            if first[-1][0] == second[-1][0] and first[-1][2] == second[-1][1]:
                self.check(atlas, first, second)
                joined += 1
            else:
                with self.assertRaises(NotJoined):
                    join_routes(atlas, first, second)
        self.assertGreater(joined, 60)

    def test_a_route_and_itself(self):
        self.check(LOOP, TURNS, TURNS)
        self.check(LOOP, IN_SLOT, IN_SLOT)
        self.check(LOOP, [STILL], [STILL])

    def test_unused_parts(self):
        self.check(LOOP, loop_chain(4) + [PAIR], loop_chain(3) + [STILL] + [loop_part([("edge", 2), ("call", 0, 1), ("edge", 3)])])

    def test_limits_on_parts(self):
        for many in (1, 2, 450, 899):
            found = self.check(LOOP, [PAIR] * many, [STILL] * (899 - many) + [PAIR])
            self.assertLessEqual(len(found), 900)
            with self.assertRaises(TooLarge):
                join_routes(LOOP, [PAIR] * many, [STILL] * (901 - many))
        with self.assertRaises(TooLarge):
            join_routes(LOOP, [PAIR] * 3000, [PAIR] * 3000)

    def test_limits_on_items(self):
        hundred = [loop_part([("edge", 1), ("edge", 0)] * 50)]
        more = [loop_part([("edge", 1), ("edge", 0)] * 51)]
        self.assertEqual(len(self.check(LOOP, hundred, hundred)[-1][3]), 200)
        calls = [PAIR, ("o", SLOT, SLOT, (("call", 0, 0),) * 200)]
        self.check(LOOP, calls, [("o", SLOT, SLOT, ())])
        self.check(LOOP, [("o", SLOT, SLOT, ())], calls)
        for first, second in ((hundred, more), (more, hundred), (calls, [PAIR, ("o", SLOT, PORT, (("edge", 3),))])):
            with self.assertRaises(TooLarge):
                join_routes(LOOP, first, second)

    def test_limits_on_steps(self):
        half = one_call(MANY // 2)
        self.assertEqual(measure(LOOP, join_routes(LOOP, half, half))[1], MANY)
        self.assertEqual(measure(LOOP, join_routes(LOOP, half, loop_route(MANY // 2 - 1)))[1], MANY - 1)
        for more in (1, 2):
            with self.assertRaises(TooLarge):
                join_routes(LOOP, half, loop_route(MANY // 2 + more))
        whole = loop_route(MANY)
        still = [("o", SLOT, SLOT, ())]
        self.assertEqual(measure(LOOP, join_routes(LOOP, whole, still))[1], MANY)
        self.assertEqual(measure(LOOP, join_routes(LOOP, still, whole))[1], MANY)
        with self.assertRaises(TooLarge):
            join_routes(LOOP, whole, [("o", SLOT, PORT, (("edge", 3),))])

    def test_not_joined(self):
        inner = ("b", ("port", 0), ("port", 1), (("edge", 0),))
        outer = ("a", ("port", 0), ("port", 1), (("edge", 0),))
        for first, second in (
            ([outer], [outer]),
            ([outer], [("b", ("port", 1), ("port", 1), ())]),
            ([("a", ("slot", 0, 1), ("slot", 0, 1), ())], [("a", ("slot", 0, 0), ("slot", 0, 0), ())]),
            ([("a", ("port", 1), ("port", 1), ())], [("a", ("slot", 0, 1), ("slot", 0, 1), ())]),
            ([inner, outer], [inner]),
        ):
            with self.assertRaises(NotJoined):
                join_routes(B, first, second)
        # Other parts may end and start where they will.
        self.check(B, [inner, outer], [inner, ("a", ("port", 1), ("port", 1), ())])

    def test_order_of_errors(self):
        far = [("o", ("node", 0), ("node", 0), ())]
        for first, second in (([PAIR] * 900, far), ([PAIR], [STILL] * 900 + far), (loop_route(MANY), far)):
            with self.assertRaises(NotJoined):
                join_routes(LOOP, first, second)
        with self.assertRaises(BadRoute) as caught:
            join_routes(LOOP, [PAIR, None], [PAIR, PAIR, PAIR, None])
        self.assertEqual(caught.exception.position, 1)
        with self.assertRaises(BadRoute) as caught:
            join_routes(LOOP, far, [PAIR, PAIR, PAIR, None])
        self.assertEqual(caught.exception.position, 3)
        great = loop_route(MANY + 1)
        for first, second in ((great, far), (far, great)):
            with self.assertRaises(BadRoute) as caught:
                join_routes(LOOP, first, second)
            self.assertEqual(caught.exception.position, len(great) - 1)
        for value in [odd for odd in ODD_VALUES if odd != K]:
            for first, second in ((value, K), (K, value), (value, value)):
                with self.assertRaises(BadRoute) as caught:
                    join_routes(E, first, second)
                self.assertEqual(caught.exception.position, 0)
        with self.assertRaises(BadAtlas):
            join_routes([], None, None)

    def test_new_at_each_call(self):
        first, second = [PAIR], [PAIR, PAIR]
        join_routes(LOOP, first, second).clear()
        self.assertEqual((first, second), ([PAIR], [PAIR, PAIR]))


if __name__ == "__main__":
    unittest.main()
