"""Single steps, places and costs along the path of a route: [25]."""

import unittest
from random import Random

from slotmaps.errors import BadAtlas, BadRoute, BadStep
from slotmaps.measures import measure
from slotmaps.places import place_of
from slotmaps.reading import cost_at, point_at, step_at
from slotmaps.routes import best_route
from tests import oracle
from tests.samples import (
    LOOP,
    ODD_VALUES,
    PORT,
    SLOT,
    B,
    E,
    K,
    linked_atlas,
    loop_chain,
    loop_part,
    loop_route,
    loop_tower,
    points_of,
    random_route,
    turning_atlas,
)

MANY = 10**300
BAD_STEPS = [-1, -(10**399), True, False, None, "0", "", (), (0,), [], [0], {}, {0: 0}, 10**399]


class ReadingTest(unittest.TestCase):
    def check_all(self, atlas, route):
        """Every step number of a short route gives what the listed steps give."""
        before = list(route)
        listed = oracle.listed_steps(route)
        places, costs = oracle.walked(atlas, route)
        self.assertEqual([step_at(atlas, route, t) for t in range(len(listed))], listed)
        self.assertEqual([point_at(atlas, route, t) for t in range(len(places))], places)
        self.assertEqual([cost_at(atlas, route, t) for t in range(len(costs))], costs)
        with self.assertRaises(BadStep):
            step_at(atlas, route, len(listed))
        for function in (step_at, point_at, cost_at):
            for value in BAD_STEPS + [len(listed) + 1]:
                with self.assertRaises(BadStep):
                    function(atlas, route, value)
        self.assertEqual(route, before)
        return len(listed)

    def test_example(self):
        self.assertEqual(repr(step_at(E, K, 2)), "((0,), 2)")
        self.assertEqual(repr(point_at(E, K, 2)), "((0,), ('port', 0))")
        self.assertEqual(repr(cost_at(E, K, 3)), "3")
        self.assertEqual(self.check_all(E, K), 5)
        self.assertEqual(self.check_all(E, K[:1]), 2)

    def test_routes_without_steps(self):
        for route in (
            [loop_part([])],
            [("o", SLOT, SLOT, ())],
            [("o", ("node", 0), ("node", 0), ())],
            [loop_part([]), ("o", SLOT, SLOT, (("call", 0, 0),) * 3)],
        ):
            self.assertEqual(self.check_all(LOOP, route), 0)
            self.assertEqual(point_at(LOOP, route, 0), place_of((), route[-1][1]))
            self.assertEqual(cost_at(LOOP, route, 0), 0)

    def test_calls_without_steps_between_others(self):
        still = loop_part([])
        pair = loop_part([("edge", 1), ("edge", 0)])
        calls = [("call", 0, 0), ("call", 0, 1), ("call", 0, 0), ("call", 0, 0), ("call", 0, 1), ("call", 0, 0)]
        self.check_all(LOOP, [still, pair, loop_part([("edge", 2)] + calls + [("edge", 3)])])
        self.check_all(LOOP, [still, pair, ("o", SLOT, SLOT, tuple(calls))])
        self.check_all(LOOP, [still, pair, loop_part([("edge", 2)] + calls + [("edge", 3)])] + [
            ("o", SLOT, PORT, (("call", 0, 2), ("call", 0, 0), ("call", 0, 2), ("edge", 3)))
        ])

    def test_short_routes(self):
        rng = Random(401)
        many = 0
        for k in range(120):
            atlas = linked_atlas(rng) if k % 2 else turning_atlas(rng)
            chart = rng.choice(atlas)
            points = points_of(atlas, chart)
            route = best_route(atlas, chart[0], rng.choice(points), rng.choice(points))
            if route is not None and measure(atlas, route)[1] < 60:
                many = max(many, self.check_all(atlas, route))
        self.assertGreater(many, 10)
        for length in (1, 2, 3, 8):
            self.check_all(LOOP, loop_chain(length))
        parts, _ = loop_tower(2)
        self.assertEqual(self.check_all(LOOP, parts), 398)
        for steps in (1, 2, 3, 7, 450):
            self.check_all(LOOP, loop_route(steps))

    def test_random_routes(self):
        rng = Random(403)
        many = 0
        for _ in range(150):
            atlas = linked_atlas(rng)
            route = random_route(rng, atlas, rng.randint(1, 9), rng.randint(1, 6))
            if measure(atlas, route)[1] < 60:
                many = max(many, self.check_all(atlas, route))
        self.assertGreater(many, 10)

    def test_unused_parts(self):
        parts, _ = loop_tower(300)
        route = parts + [("o", SLOT, SLOT, (("call", 0, 0),))]
        self.check_all(LOOP, route)

    def test_deep_chain(self):
        route = loop_chain(3000)
        self.assertEqual(measure(LOOP, route), (5 + 12 * 2999, 6000, 2999))
        self.assertEqual(step_at(LOOP, route, 0), ((), 2))
        self.assertEqual(step_at(LOOP, route, 7), ((0,) * 7, 2))
        self.assertEqual(step_at(LOOP, route, 2999), ((0,) * 2999, 1))
        self.assertEqual(step_at(LOOP, route, 3000), ((0,) * 2999, 0))
        self.assertEqual(step_at(LOOP, route, 5999), ((), 3))
        self.assertEqual(point_at(LOOP, route, 3000), ((0,) * 2999, ("node", 0)))
        self.assertEqual(point_at(LOOP, route, 2999), ((0,) * 2999, PORT))
        self.assertEqual(point_at(LOOP, route, 3001), ((0,) * 2999, PORT))
        self.assertEqual(point_at(LOOP, route, 3002), ((0,) * 2998, PORT))
        self.assertEqual(point_at(LOOP, route, 6000), ((), PORT))
        self.assertEqual(cost_at(LOOP, route, 2999), 5 * 2999)
        self.assertEqual(cost_at(LOOP, route, 3000), 5 * 2999 + 3)
        self.assertEqual(cost_at(LOOP, route, 6000), 5 + 12 * 2999)

    def test_great_routes(self):
        for many in (MANY, MANY - 1, MANY - 2):
            route = loop_route(many)
            cost, steps, _ = measure(LOOP, route)
            self.assertEqual(steps, many)
            self.assertEqual(cost_at(LOOP, route, 0), 0)
            self.assertEqual(cost_at(LOOP, route, many), cost)
            self.assertEqual(point_at(LOOP, route, 0), ((0,), PORT))
            self.assertEqual(point_at(LOOP, route, many), ((), PORT) if many % 2 else ((0,), PORT))
            for t in (0, 1, 2, 500, many // 3, many // 2, many // 2 + 1, many - 1000, many - 2, many - 1):
                self.check_step(route, t)
            for value in (many + 1, 10**301):
                for function in (step_at, point_at, cost_at):
                    with self.assertRaises(BadStep):
                        function(LOOP, route, value)
            with self.assertRaises(BadStep):
                step_at(LOOP, route, many)

    def check_step(self, route, t):
        """The step leads from the place before it to the place behind it, at the difference of the costs."""
        address, e = step_at(LOOP, route, t)
        source, target, cost = LOOP[0][4][e]
        self.assertEqual(point_at(LOOP, route, t), place_of(address, source))
        self.assertEqual(point_at(LOOP, route, t + 1), place_of(address, target))
        self.assertEqual(cost_at(LOOP, route, t + 1) - cost_at(LOOP, route, t), cost)
        self.assertLessEqual(set(address), {0})

    def test_positions_in_a_tower(self):
        """In a tower of parts, the copies that a step lies in follow from its number."""
        parts, steps = loop_tower(100)
        rng = Random(402)
        for _ in range(60):
            t = rng.randrange(steps[-1])
            address, e = step_at(LOOP, parts, t)
            level, rest = 99, t
            while level and rest not in (0, steps[level] - 1):
                rest = (rest - 1) % steps[level - 1]
                level -= 1
            self.assertEqual(len(address), 99 - level)
            self.assertEqual(e, {True: 1 if level == 0 else 2, False: 0 if level == 0 else 3}[rest == 0])

    def test_bad_routes(self):
        for function in (step_at, point_at, cost_at):
            for value in [odd for odd in ODD_VALUES if odd != K] + [tuple(K)]:
                with self.assertRaises(BadRoute) as caught:
                    function(E, value, None)
                self.assertEqual(caught.exception.position, 0)
            with self.assertRaises(BadRoute) as caught:
                function(E, K + [None], -1)
            self.assertEqual(caught.exception.position, 2)
            route = loop_route(MANY + 1)
            with self.assertRaises(BadRoute) as caught:
                function(LOOP, route, 0)
            self.assertEqual(caught.exception.position, len(route) - 1)
            with self.assertRaises(BadAtlas):
                function(list(E), None, None)
            with self.assertRaises(BadRoute):
                function(B, K, 0)


if __name__ == "__main__":
    unittest.main()
