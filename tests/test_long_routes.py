"""Long routes: [22], [25], [26] and [27] for routes of hundreds and thousands of parts."""

import unittest
from random import Random

from slotmaps.cutting import join_routes, slice_route
from slotmaps.errors import BadRoute, NotInside, NotJoined, TooLarge
from slotmaps.measures import measure
from slotmaps.reading import cost_at, point_at, step_at
from tests.samples import LOOP, E, linked_atlas, loop_chain, points_of, turning_atlas
from tests.work import many_calls

P0, P1 = ("port", 0), ("port", 1)
MANY = 10**300


def ladder(many):
    """Return a route in E of so many parts, each of which calls the one before it."""
    parts = [("e", P0, P1, (("edge", 2), ("edge", 0)))]
    return parts + [
        ("e", P0, P1, (("edge", 2), ("edge", 1), ("call", 0, k - 1), ("edge", 3))) for k in range(1, many)
    ]


def long_route(rng, atlas, many, items=4, last=None):
    """Return a route of so many parts; the last one begins at this point of a map, (name, point), if one is given.

    A call is mostly of one of the latest parts, so that calls are nested deep.
    """
    maps = {chart[0]: chart for chart in atlas}
    leaving = {}
    for name, chart in maps.items():
        for e, (source, target, _) in enumerate(chart[4]):
            leaving.setdefault((name, source), []).append((("edge", e), target))
    callable_parts = {}
    parts = []
    while len(parts) < many:
        name = rng.choice(atlas)[0]
        start = ("port", rng.randrange(maps[name][1]))
        if len(parts) == many - 1 and last is not None:
            name, start = last
        here = start
        made = []
        while len(made) < items:
            moves = list(leaving.get((name, here), []))
            if here[0] == "slot":
                calls = callable_parts.get((maps[name][3][here[1]], ("port", here[2])), [])
                for p in calls[-2:] + ([rng.choice(calls)] if calls else []):
                    moves.append((("call", here[1], p), ("slot", here[1], parts[p][2][1])))
            if not moves:
                break
            item, here = rng.choice(moves)
            made.append(item)
        if here[0] == "port":
            callable_parts.setdefault((name, start), []).append(len(parts))
        elif len(parts) < many - 1 and rng.random() < 0.9:
            continue
        parts.append((name, start, here, tuple(made)))
    return parts


def measured(atlas, route):
    """Return (cost, steps, depth) of a route, by numbers of steps at each level below the part that they stand in."""
    maps = {chart[0]: chart for chart in atlas}
    told = []
    for name, _, _, items in route:
        cost = steps = 0
        depth = -1
        for item in items:
            if item[0] == "edge":
                cost, steps, depth = cost + maps[name][4][item[1]][2], steps + 1, max(depth, 0)
            else:
                more, many, inner = told[item[2]]
                cost, steps = cost + more, steps + many
                if many:
                    depth = max(depth, inner + 1)
        told.append((cost, steps, depth))
    cost, steps, depth = told[-1]
    return cost, steps, max(depth, 0)


def place_of(address, point):
    return (address + (point[1],), ("port", point[2])) if point[0] == "slot" else (address, point)


class LongRoutesTest(unittest.TestCase):
    def drawn(self, seed, routes, low, high):
        """Return atlases with long routes, of paths that are not too long."""
        rng = Random(seed)
        found = []
        while len(found) < routes:
            atlas = rng.choice([linked_atlas, turning_atlas])(rng)
            route = long_route(rng, atlas, rng.randint(low, high), rng.choice([1, 2, 4, 8]))
            if 1 < measured(atlas, route)[1] <= MANY:
                found.append((rng, atlas, route))
        return found

    def check_steps(self, atlas, route, total, t):
        """Step number t leads from place to place, at the cost of its edge."""
        maps = {chart[0]: chart for chart in atlas}
        address, e = step_at(atlas, route, t)
        name = route[-1][0]
        for s in address:
            name = maps[name][3][s]
        source, target, cost = maps[name][4][e]
        self.assertEqual(point_at(atlas, route, t), place_of(address, source))
        self.assertEqual(point_at(atlas, route, t + 1), place_of(address, target))
        before, behind = cost_at(atlas, route, t), cost_at(atlas, route, t + 1)
        self.assertEqual(behind - before, cost)
        self.assertTrue(0 <= before < behind <= total)

    def test_ladder(self):
        self.assertEqual(measure(E, ladder(3000)), (9003, 8999, 2999))
        self.assertEqual(measure(E, ladder(960)), (2883, 2879, 959))
        route = ladder(960)
        before = repr(route)
        self.assertEqual(step_at(E, route, 1000), ((0,) * 500, 2))
        self.assertEqual(step_at(E, route, 1001), ((0,) * 500, 1))
        self.assertEqual(step_at(E, route, 1919), ((0,) * 959, 0))
        self.assertEqual(step_at(E, route, 1920), ((0,) * 958, 3))
        self.assertEqual(step_at(E, route, 2878), ((), 3))
        self.assertEqual(point_at(E, route, 1000), ((0,) * 500, P0))
        self.assertEqual(point_at(E, route, 2879), ((), P1))
        self.assertEqual([cost_at(E, route, t) for t in (0, 1000, 1919, 1920, 2879)], [0, 1000, 1919, 1924, 2883])
        self.assertEqual(repr(route), before)

    def test_joined_ladders(self):
        route = ladder(450)
        still = route[:-1] + [("e", P1, P1, ())]
        before = repr((route, still))
        joined = join_routes(E, route, still)
        self.assertEqual(measure(E, joined), measure(E, route))
        self.assertLessEqual(len(joined), 900)
        start = route[:-1] + [("e", P0, P0, ())]
        for first, second in ((start, route), (start[-1:], route), (route, still[-1:])):
            joined = join_routes(E, first, second)
            self.assertEqual(measure(E, joined), measure(E, route))
            self.assertEqual(step_at(E, joined, 700), step_at(E, route, 700))
            self.assertLessEqual(len(joined), len(first) + len(second))
        for first, second, word in (
            (route, route, NotJoined),
            (still, route, NotJoined),
            (route, ladder(2) + still, TooLarge),
            (start + [start[0], start[-1]], route, TooLarge),
        ):
            with self.assertRaises(word):
                join_routes(E, first, second)
        self.assertEqual(repr((route, still)), before)

    def test_drawn_routes(self):
        deepest = longest = 0
        for rng, atlas, route in self.drawn(1501, 60, 450, 3000):
            before = repr(route)
            cost, steps, depth = measured(atlas, route)
            self.assertEqual(measure(atlas, route), (cost, steps, depth))
            for t in [0, steps - 1] + [rng.randrange(steps) for _ in range(3)]:
                self.check_steps(atlas, route, cost, t)
            self.assertEqual((cost_at(atlas, route, 0), cost_at(atlas, route, steps)), (0, cost))
            self.assertEqual(point_at(atlas, route, 0), place_of((), route[-1][1]))
            self.assertEqual(point_at(atlas, route, steps), place_of((), route[-1][2]))
            self.assertEqual(repr(route), before)
            deepest, longest = max(deepest, depth), max(longest, steps)
        self.assertGreater(deepest, 20)
        self.assertGreater(longest, 10**9)

    def test_drawn_routes_joined_and_cut(self):
        joins = cuts = 0
        for rng, atlas, route in self.drawn(1502, 60, 2, 600):
            name, _, end, _ = route[-1]
            other = long_route(rng, atlas, rng.choice([1, 5, rng.randint(1, 300)]), 4, (name, end))
            cost, steps, depth = measured(atlas, route)
            more, many, inner = measured(atlas, other)
            if steps + many > MANY:
                continue
            joined = join_routes(atlas, route, other)
            self.assertEqual(measure(atlas, joined), (cost + more, steps + many, max(depth, inner)))
            for _ in range(4):
                t = rng.randrange(steps + many)
                expected = step_at(atlas, route, t) if t < steps else step_at(atlas, other, t - steps)
                self.assertEqual(step_at(atlas, joined, t), expected)
            joins += 1
            t, u = sorted([rng.randint(0, steps), rng.randint(0, steps)])
            try:
                cut = slice_route(atlas, route, t, u)
            except NotInside:
                continue
            self.assertEqual(measure(atlas, cut)[:2], (cost_at(atlas, route, u) - cost_at(atlas, route, t), u - t))
            if t < u:
                self.assertEqual(step_at(atlas, cut, u - t - 1), step_at(atlas, route, u - 1))
            cuts += 1
        self.assertGreater(min(joins, cuts), 10)

    def test_either_of_the_joined_routes_may_be_longer(self):
        for low, high in ((2, 50), (50, 2), (7, 7), (1, 9), (9, 1), (2, 3), (400, 499)):
            first, second = loop_chain(low), loop_chain(high)
            # At the bottom of the second route, the first part goes around twice.
            second[0] = second[0][:3] + (second[0][3] * 2,)
            before = repr((first, second))
            joined = join_routes(LOOP, first, second)
            steps, more = 2 * low, 2 * high + 2
            self.assertEqual(measure(LOOP, joined), (12 * (low + high) - 9, steps + more, max(low, high) - 1))
            for t in range(0, steps + more, 7):
                expected = step_at(LOOP, first, t) if t < steps else step_at(LOOP, second, t - steps)
                self.assertEqual(step_at(LOOP, joined, t), expected)
            self.assertLessEqual(len(joined), low + high)
            self.assertEqual(repr((first, second)), before)

    def test_a_wrong_part(self):
        rng = Random(1503)
        for _, atlas, route in self.drawn(1504, 12, 450, 1200):
            for _ in range(25):
                position = rng.randrange(len(route))
                value = route[:position] + [self.spoiled(rng, atlas, route[position], position)] + route[position + 1 :]
                # A second fault behind the first one changes nothing.
                for whole in (value, value + [None], value[: position + 1]):
                    for call in (
                        lambda: measure(atlas, whole),
                        lambda: step_at(atlas, whole, None),
                        lambda: point_at(atlas, whole, -1),
                        lambda: cost_at(atlas, whole, 0),
                        lambda: slice_route(atlas, whole, 1, 0),
                        lambda: join_routes(atlas, whole, None),
                        lambda: join_routes(atlas, route, whole),
                    ):
                        with self.assertRaises(BadRoute) as caught:
                            call()
                        self.assertEqual(repr(caught.exception.position), repr(position))

    def spoiled(self, rng, atlas, part, position):
        """Return the part with one fault."""
        name, start, end, items = part
        maps = {chart[0]: chart for chart in atlas}
        bools = {0: False, 1: True}
        kinds = [
            (name, start, end, items + (("edge", len(maps[name][4])),)),
            (name, start, end, items + (("edge", -1),)),
            (name, start, end, items + (["edge", 0],)),
            (name, start, end, items + (("call", 0, position),)),
            (name, start, end, items + (("call", 0, -1),)),
            (name, start, end, list(items)),
            (name, start, end, items * 201 if items else None),
            (name, list(start), end, items),
            (name, start, ("port", -1), items),
            (name, start, ("port", 4), items),
            (name + "x", start, end, items),
            (None, start, end, items),
            part[:3],
            list(part),
            None,
        ]
        if start[1] in bools:
            kinds.append((name, (start[0], bools[start[1]]) + start[2:], end, items))
        if end[-1] in bools:
            kinds.append((name, start, end[:-1] + (bools[end[-1]],), items))
        if end[1] in bools:
            kinds.append((name, start, (end[0], bools[end[1]]) + end[2:], items))
        for k, item in enumerate(items):
            if item[-1] in bools:
                kinds.append((name, start, end, items[:k] + (item[:-1] + (bools[item[-1]],),) + items[k + 1 :]))
            if item[1] in bools:
                kinds.append((name, start, end, items[:k] + (item[:1] + (bools[item[1]],) + item[2:],) + items[k + 1 :]))
        others = [point for point in points_of(atlas, maps[name]) if point != end]
        kinds += [(name, start, point, items) for point in others]
        return rng.choice(kinds)

    def test_work_for_each_part(self):
        """A part is checked in few function calls, whatever its number of items; a number alike on every machine."""
        route = ladder(3000)
        wide = [("e", P0, P1, (("edge", 2), ("edge", 0)))] * 2999 + [("e", ("slot", 0, 0), ("slot", 0, 1), (("call", 0, 7),))]
        for function, arguments in (
            (measure, (E, route)),
            (measure, (E, wide)),
            (step_at, (E, route, 1)),
            (cost_at, (E, route, 8000)),
            (point_at, (E, route, 2)),
        ):
            self.assertLess(many_calls(function, *arguments), 3000 * 3)


if __name__ == "__main__":
    unittest.main()
