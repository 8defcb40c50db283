"""Routes, the paths that they describe, and their measures: [20] to [22]."""

import unittest
from random import Random

from slotmaps.errors import BadAtlas, BadRoute
from slotmaps.measures import measure
from slotmaps.routes import best_route
from tests import oracle
from tests.samples import (
    FULL,
    LOOP,
    ODD_VALUES,
    PORT,
    SLOT,
    UP,
    B,
    E,
    K,
    linked_atlas,
    loop_chain,
    loop_part,
    loop_route,
    loop_tower,
    points_of,
    random_route,
    random_value,
    with_part_changed,
)

MANY = 10**300
TWO = (
    ("p", 2, ("x",), ("q", "p"), (
        (("node", 0), ("port", 1), 4),
        (("port", 0), ("node", 0), 3),
        (("port", 0), ("slot", 0, 0), 2),
        (("port", 1), ("slot", 1, 0), 6),
        (("slot", 0, 1), ("port", 1), 5),
        (("slot", 1, 1), ("port", 1), 7),
    )),
    ("q", 2, (), (), ((("port", 0), ("port", 1), 9), (("port", 1), ("port", 0), 8))),
)
# Part 3 calls 0 and 2, in its two slots; part 1 is not used.
BASE = [
    ("q", ("port", 0), ("port", 1), (("edge", 0),)),
    ("q", ("port", 1), ("port", 0), (("edge", 1),)),
    ("p", ("port", 0), ("port", 1), (("edge", 1), ("edge", 0))),
    ("p", ("port", 0), ("port", 1), (("edge", 2), ("call", 0, 0), ("edge", 4), ("edge", 3), ("call", 1, 2), ("edge", 5))),
]


def changed(route, position, **parts):
    """Return the route with the name, start, end or items of one part replaced."""
    part = dict(zip(("name", "start", "end", "items"), route[position]))
    part.update(parts)
    return route[:position] + [tuple(part.values())] + route[position + 1 :]


class MeasureTest(unittest.TestCase):
    def check(self, atlas, route, expected):
        before = list(route)
        for _ in range(2):
            self.assertEqual(repr(measure(atlas, route)), repr(expected))
        self.assertEqual(route, before)

    def check_bad(self, atlas, route, position):
        with self.assertRaises(BadRoute) as caught:
            measure(atlas, route)
        self.assertIs(type(caught.exception), BadRoute)
        self.assertEqual(repr(caught.exception.position), repr(position))

    def test_examples(self):
        self.check(E, K, (9, 5, 1))
        self.check(E, K[:1], (6, 2, 0))
        self.check(TWO, BASE, (2 + 9 + 5 + 6 + 7 + 7, 7, 1))

    def test_parts_without_items(self):
        for name, point in (("p", ("node", 0)), ("p", ("port", 1)), ("p", ("slot", 1, 1)), ("q", ("port", 0))):
            self.check(TWO, [(name, point, point, ())], (0, 0, 0))
        self.check_bad(TWO, [("q", ("port", 0), ("port", 1), ())], 0)
        self.check_bad(TWO, [("p", ("slot", 0, 0), ("slot", 1, 0), ())], 0)

    def test_paths_without_steps_use_no_copy(self):
        still = loop_part([])
        self.check(LOOP, [still, ("o", SLOT, SLOT, (("call", 0, 0),) * 200)], (0, 0, 0))
        route = [still, loop_part([("edge", 2), ("call", 0, 0), ("edge", 3)])]
        self.check(LOOP, route, (12, 2, 0))
        # The path of part 2 lies one level deeper than the part itself; in part 3, one level more.
        route = [loop_part([("edge", 1), ("edge", 0)]), still, ("o", SLOT, SLOT, (("call", 0, 1), ("call", 0, 0)))]
        self.check(LOOP, route, (5, 2, 1))
        self.check(LOOP, route + [loop_part([("edge", 2), ("call", 0, 1), ("edge", 3)])], (12, 2, 0))

    def test_a_call_alone(self):
        self.check(TWO, BASE[:1] + [("p", ("slot", 0, 0), ("slot", 0, 1), (("call", 0, 0),))], (9, 1, 1))

    def test_a_part_used_many_times_and_not_at_all(self):
        back = [("call", 0, 0), ("call", 0, 1)]
        self.check(TWO, BASE[:2] + [("p", ("slot", 0, 0), ("slot", 0, 0), tuple(back * 100))], (1700, 200, 1))
        self.check(TWO, BASE[:3] + [("p", ("slot", 0, 0), ("slot", 0, 1), (("call", 0, 0),))], (9, 1, 1))

    def test_listed_steps(self):
        rng = Random(201)
        deepest = 0
        for _ in range(200):
            atlas = linked_atlas(rng)
            name = rng.choice(atlas)[0]
            points = points_of(atlas, [chart for chart in atlas if chart[0] == name][0])
            for _ in range(5):
                route = best_route(atlas, name, rng.choice(points), rng.choice(points))
                if route is None:
                    continue
                listed = oracle.listed_steps(route)
                places, costs = oracle.walked(atlas, route)
                depth = max([0] + [len(address) for address, _ in listed])
                self.check(atlas, route, (costs[-1], len(listed), depth))
                deepest = max(deepest, depth)
        self.assertGreater(deepest, 1)

    def test_random_routes(self):
        rng = Random(204)
        deepest = 0
        for _ in range(300):
            atlas = linked_atlas(rng)
            route = random_route(rng, atlas, rng.randint(1, 9), rng.randint(1, 6))
            listed = oracle.listed_steps(route)
            depth = max([0] + [len(address) for address, _ in listed])
            self.check(atlas, route, (oracle.walked(atlas, route)[1][-1], len(listed), depth))
            deepest = max(deepest, depth)
        self.assertGreater(deepest, 1)

    def test_number_of_parts(self):
        self.check(LOOP, loop_chain(2999), (5 + 12 * 2998, 2 + 2 * 2998, 2998))
        chain = loop_chain(3001)
        self.check(LOOP, chain[:3000], (5 + 12 * 2999, 2 + 2 * 2999, 2999))
        self.check_bad(LOOP, chain, 0)
        self.check(LOOP, [chain[0]] * 3000, (5, 2, 0))
        self.check_bad(LOOP, [chain[0]] * 3001, 0)
        self.check_bad(LOOP, [None] * 3001, 0)
        self.check_bad(LOOP, [], 0)

    def test_number_of_items(self):
        pair = [("edge", 1), ("edge", 0)]
        self.check(LOOP, [loop_part(pair * 100)], (500, 200, 0))
        self.check_bad(LOOP, [loop_part(pair * 101)], 0)
        calls = [("call", 0, 0)] * 201
        self.check(LOOP, [loop_part(pair), ("o", SLOT, SLOT, tuple(calls[:200]))], (1000, 400, 1))
        for many in (201, 202, 20000):
            route = [loop_part(pair), ("o", SLOT, SLOT, tuple([("call", 0, 0)] * many))]
            self.check_bad(LOOP, route, 1)
            self.check_bad(LOOP, route + [loop_part(pair)] + [None], 1)

    def test_number_of_steps(self):
        for many in (0, 1, 2, 3, 1000, 10**18 + 1, MANY - 1, MANY):
            self.assertEqual(measure(LOOP, loop_route(many))[1], many)
        for many in (MANY + 1, MANY + 2, MANY + 3, 2 * MANY, MANY**2):
            route = loop_route(many)
            self.check_bad(LOOP, route, len(route) - 1)

    def test_great_parts_that_are_not_used(self):
        parts, steps = loop_tower(3000)
        self.assertGreater(steps[-1], 10**6000)
        self.check_bad(LOOP, parts, 2999)
        self.check(LOOP, parts[:2999] + [loop_part([("edge", 1), ("edge", 0)])], (5, 2, 0))
        used = loop_part([("edge", 2), ("call", 0, 20), ("edge", 3)])
        self.check(LOOP, parts[:2999] + [used], (self.tower_cost(20) + 12, steps[20] + 2, 21))
        self.check_bad(LOOP, parts[:2999] + [loop_part([("edge", 2), ("call", 0, 140), ("edge", 3)])], 2999)

    def tower_cost(self, level):
        cost = 5
        for _ in range(level):
            cost = 198 * cost + 12
        return cost

    def test_many_items_in_many_parts(self):
        parts = [loop_part([("edge", 1), ("edge", 0)] * 100)] * 3000
        self.check(LOOP, parts, (500, 200, 0))
        parts[2998] = loop_part([("edge", 1), ("edge", 0)] * 99 + [("edge", 1), ("edge", 1)])
        self.check_bad(LOOP, parts, 2998)

    def test_each_rule_broken(self):
        items = BASE[3][3]
        for position, parts in (
            (0, {"name": "p"}),
            (0, {"name": "r"}),
            (0, {"name": None}),
            (0, {"name": ["q"]}),
            (0, {"name": ("q",)}),
            (1, {"name": "q\n"}),
            (2, {"name": "q"}),
            (0, {"start": ("port", 1)}),
            (0, {"start": ("port", False)}),
            (0, {"start": ["port", 0]}),
            (0, {"start": ("node", 0)}),
            (1, {"end": ("port", 1)}),
            (1, {"end": ("port", False)}),
            (1, {"end": ("port", 2)}),
            (1, {"end": None}),
            (3, {"start": ("slot", 0, 0)}),
            (3, {"start": ("slot", 2, 0)}),
            (3, {"start": ("port", 0, 0)}),
            (3, {"end": ("slot", 1, 1)}),
            (3, {"end": ("port", -1)}),
            (0, {"items": ()}),
            (0, {"items": [("edge", 0)]}),
            (0, {"items": None}),
            (0, {"items": (("edge", 1),)}),
            (0, {"items": (("edge", 2),)}),
            (0, {"items": (("edge", -2),)}),
            (0, {"items": (("edge", False),)}),
            (0, {"items": (("edge", "0"),)}),
            (0, {"items": (("edge", None),)}),
            (0, {"items": (["edge", 0],)}),
            (0, {"items": (("Edge", 0),)}),
            (0, {"items": (("edges", 0),)}),
            (0, {"items": (("edge", 0, 0),)}),
            (0, {"items": (("edge",),)}),
            (0, {"items": ((),)}),
            (0, {"items": (None,)}),
            (0, {"items": ("edge", 0)}),
            (0, {"items": (("call", 0, 0),)}),
            (2, {"items": (("edge", 1),)}),
            (2, {"items": (("edge", 1), ("edge", 0), ("edge", 0))}),
            (3, {"items": items[:1] + (("call", False, 0),) + items[2:]}),
            (3, {"items": items[:1] + (("call", 0, False),) + items[2:]}),
            (3, {"items": items[:1] + (("call", 0, 1),) + items[2:]}),
            (3, {"items": items[:1] + (("call", 0, 2),) + items[2:]}),
            (3, {"items": items[:1] + (("call", 0, 3),) + items[2:]}),
            (3, {"items": items[:1] + (("call", 0, 4),) + items[2:]}),
            (3, {"items": items[:1] + (("call", 0, -4),) + items[2:]}),
            (3, {"items": items[:1] + (("call", 0, None),) + items[2:]}),
            (3, {"items": items[:1] + (("call", 0),) + items[2:]}),
            (3, {"items": items[:1] + (("call", 0, 0, 0),) + items[2:]}),
            (3, {"items": items[:1] + (["call", 0, 0],) + items[2:]}),
            (3, {"items": items[:1] + (("Call", 0, 0),) + items[2:]}),
            (3, {"items": items[:1] + (("call", 1, 0),) + items[2:]}),
            (3, {"items": items[:4] + (("call", 1, 0),) + items[5:]}),
            (3, {"items": items[:4] + (("call", True, 2),) + items[5:]}),
            (3, {"items": items[:4] + (("call", 0, 2),) + items[5:]}),
            (3, {"items": items[:4] + (("call", 2, 2),) + items[5:]}),
            (3, {"items": items[1:]}),
            (3, {"items": items[:-1]}),
            (3, {"items": items[:1] + items[2:]}),
        ):
            route = changed(BASE, position, **parts)
            self.check_bad(TWO, route, position)
            # Later faults change nothing; good parts before it only change the position.
            self.check_bad(TWO, route + [None], position)
            self.check_bad(TWO, BASE[:2] * 5 + route, 10 + position)

    def test_calls_of_parts_that_end_or_start_elsewhere(self):
        inner = [
            ("p", ("port", 0), ("node", 0), (("edge", 1),)),
            ("p", ("node", 0), ("port", 1), (("edge", 0),)),
            ("p", ("port", 1), ("slot", 1, 0), (("edge", 3),)),
            ("p", ("slot", 0, 1), ("port", 1), (("edge", 4),)),
        ]
        for start in (("slot", 1, 0), ("slot", 1, 1)):
            for end in (("slot", 1, 0), ("slot", 1, 1), ("port", 1)):
                for p in range(4):
                    self.check_bad(TWO, inner + [("p", start, end, (("call", 1, p),))], 4)

    def test_points_with_bools(self):
        bools = {0: False, 1: True}
        for name, point in (
            ("p", ("node", 0)),
            ("p", ("port", 0)),
            ("p", ("port", 1)),
            ("p", ("slot", 0, 0)),
            ("p", ("slot", 0, 1)),
            ("p", ("slot", 1, 0)),
            ("p", ("slot", 1, 1)),
        ):
            self.check(TWO, [(name, point, point, ())], (0, 0, 0))
            for k in range(1, len(point)):
                other = point[:k] + (bools[point[k]],) + point[k + 1 :]
                self.assertEqual(other, point)
                for start, end in ((other, point), (point, other), (other, other)):
                    self.check_bad(TWO, [(name, start, end, ())], 0)

    def test_calls_of_each_port_of_each_map(self):
        """A part can be called just where its map is in the slot and its start is the port."""
        rng = Random(205)
        calls = {True: 0, False: 0}
        for _ in range(12):
            atlas = linked_atlas(rng, most_maps=8, most_ports=4, most_nodes=8)
            for chart in atlas:
                for point in points_of(atlas, chart):
                    for other in atlas:
                        for i in range(other[1]):
                            s = point[1] if point[0] == "slot" else 0
                            still = (other[0], ("port", i), ("port", i), ())
                            route = [still, (chart[0], point, point, (("call", s, 0),))]
                            fits = point[0] == "slot" and chart[3][s] == other[0] and point[2] == i
                            if fits:
                                self.check(atlas, route, (0, 0, 0))
                            else:
                                self.check_bad(atlas, route, 1)
                            calls[fits] += 1
        self.assertGreater(min(calls.values()), 50)

    def test_calls_in_another_slot_with_the_same_map(self):
        still = ("u", ("port", 0), ("port", 0), ())
        for s in (0, 1):
            for i in (0, 1):
                point = ("slot", s, i)
                route = [still, ("u", point, point, (("call", s, 0),))]
                if i == 0:
                    self.check(UP, route, (0, 0, 0))
                else:
                    self.check_bad(UP, route, 1)
                for end in (point, ("slot", 1 - s, i)):
                    self.check_bad(UP, [still, ("u", point, end, (("call", 1 - s, 0),))], 1)

    def test_parts_that_are_no_parts(self):
        for value in ODD_VALUES + [BASE[0][:3], BASE[0] + ((),), list(BASE[0]), [BASE[0]], {}, E, K]:
            self.check_bad(TWO, [value], 0)
            self.check_bad(TWO, BASE[:2] + [value], 2)
            self.check_bad(TWO, BASE[:2] + [value] + BASE[2:], 2)

    def test_no_routes(self):
        for value in ODD_VALUES + [tuple(BASE), {0: BASE[0]}, BASE[0], [BASE], "route"]:
            self.check_bad(TWO, value, 0)

    def test_random_values(self):
        rng = Random(202)
        for _ in range(2000):
            value = random_value(rng)
            self.check_bad(TWO, value, 0)
            self.check_bad(TWO, BASE[:1] + [value], 1)
            self.check_bad(TWO, changed(BASE, 2, items=value), 2)
            self.check_bad(TWO, changed(BASE, 3, items=BASE[3][3][:1] + (value,) + BASE[3][3][2:]), 3)

    def test_routes_with_parts_changed(self):
        rng = Random(203)
        good = 0
        for _ in range(6000):
            atlas, route = rng.choice([(TWO, BASE), (E, K), (LOOP, loop_chain(5))])
            position = rng.randrange(len(route))
            value = route[:position] + [with_part_changed(route[position], rng)] + route[position + 1 :]
            bad = oracle.bad_part(atlas, value)
            if bad is None:
                listed = oracle.listed_steps(value)
                depth = max([0] + [len(address) for address, _ in listed])
                self.check(atlas, value, (oracle.walked(atlas, value)[1][-1], len(listed), depth))
                good += 1
            else:
                self.check_bad(atlas, value, bad)
        self.assertGreater(good, 50)

    def test_every_kind_of_point(self):
        for atlas in (E, B, TWO):
            for chart in atlas:
                for point in points_of(atlas, chart):
                    self.check(atlas, [(chart[0], point, point, ())], (0, 0, 0))
        # A name of a map of another atlas.
        self.check_bad(FULL, K, 0)

    def test_no_atlas(self):
        for value in ODD_VALUES:
            with self.assertRaises(BadAtlas):
                measure(value, None)


if __name__ == "__main__":
    unittest.main()
