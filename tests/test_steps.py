"""Steps and paths: [13] and [14]."""

import unittest
from random import Random

from slotmaps.errors import BadPlace
from slotmaps.places import steps_from
from tests.expansion import copies, places_of, steps
from tests.samples import FULL, ODD_VALUES, B, E, random_atlas, random_value

# The copy in the slot has the same edge between its ports as the map around it has beside it.
TWICE = (
    ("in", 2, (), (), ((("port", 0), ("port", 1), 4), (("port", 1), ("port", 0), 6))),
    ("out", 1, (), ("in",), ((("slot", 0, 0), ("slot", 0, 1), 4), (("slot", 0, 1), ("slot", 0, 0), 5))),
)
# From port 0 of a copy steps lead out of it, through it, and into both of its slots.
FORK = (
    (
        "f",
        2,
        ("x",),
        ("f", "f"),
        (
            (("node", 0), ("port", 0), 3),
            (("port", 0), ("node", 0), 2),
            (("port", 0), ("port", 1), 7),
            (("port", 0), ("slot", 0, 0), 1),
            (("port", 0), ("slot", 1, 1), 1),
            (("slot", 0, 0), ("node", 0), 9),
            (("slot", 0, 0), ("port", 1), 8),
            (("slot", 0, 0), ("slot", 0, 1), 7),
            (("slot", 0, 0), ("slot", 1, 0), 6),
            (("slot", 1, 1), ("slot", 0, 0), 5),
        ),
    ),
)


class StepsFromTest(unittest.TestCase):
    def check(self, atlas, root, place, expected):
        """The steps are these, in this order, in a new list at each call."""
        before = repr((atlas, place))
        first = steps_from(atlas, root, place)
        self.assertEqual(repr(first), repr(expected))
        first.append("changed by the caller")
        second = steps_from(atlas, root, place)
        self.assertEqual(repr(second), repr(expected))
        self.assertIsNot(second, first)
        self.assertEqual(repr((atlas, place)), before)

    def check_bad(self, atlas, root, value):
        before = repr(value)
        with self.assertRaises(BadPlace) as caught:
            steps_from(atlas, root, value)
        self.assertIs(type(caught.exception), BadPlace)
        self.assertEqual(repr(value), before)

    def test_example(self):
        self.check(E, "e", ((0,), ("port", 1)), [(((), ("port", 1)), 1)])

    def test_root_copy(self):
        self.check(E, "e", ((), ("port", 0)), [(((), ("node", 0)), 1)])
        self.check(E, "e", ((), ("node", 0)), [(((), ("port", 1)), 5), (((0,), ("port", 0)), 1)])
        self.check(E, "e", ((), ("port", 1)), [])
        self.check(B, "a", ((), ("port", 0)), [(((), ("port", 1)), 9), (((0,), ("port", 0)), 1)])

    def test_the_same_copy_as_root_and_in_a_slot(self):
        self.check(B, "b", ((), ("port", 1)), [])
        self.check(B, "a", ((0,), ("port", 1)), [(((), ("port", 1)), 1)])
        self.check(B, "a", ((0,), ("port", 0)), [(((0,), ("port", 1)), 3)])

    def test_steps_that_occur_more_than_once(self):
        inner, outer = ((0,), ("port", 0)), ((0,), ("port", 1))
        self.check(TWICE, "out", inner, [(outer, 4), (outer, 4)])
        self.check(TWICE, "out", outer, [(inner, 5), (inner, 6)])
        self.check(TWICE, "in", ((), ("port", 0)), [(((), ("port", 1)), 4)])

    def test_targets_higher_and_deeper_in_order(self):
        expected = [
            (((0,), ("node", 0)), 9),
            (((0,), ("port", 1)), 8),
            (((0, 0), ("node", 0)), 2),
            (((0, 0), ("port", 1)), 7),
            (((0, 0), ("port", 1)), 7),
            (((0, 0, 0), ("port", 0)), 1),
            (((0, 0, 1), ("port", 1)), 1),
            (((0, 1), ("port", 0)), 6),
        ]
        self.check(FORK, "f", ((0, 0), ("port", 0)), expected)
        self.check(FORK, "f", ((0, 1), ("port", 1)), [(((0, 0), ("port", 0)), 5)])
        # The port of a copy in slot 1 is not left by the edges of slot 0.
        deep = [
            (((1, 1), ("node", 0)), 2),
            (((1, 1), ("port", 1)), 7),
            (((1, 1, 0), ("port", 0)), 1),
            (((1, 1, 1), ("port", 1)), 1),
        ]
        self.check(FORK, "f", ((1, 1), ("port", 0)), deep)

    def test_nodes_are_left_by_their_own_copy_alone(self):
        self.check(FORK, "f", ((0, 1), ("node", 0)), [(((0, 1), ("port", 0)), 3)])

    def test_depths_199_and_200(self):
        for length in (199, 200):
            around, inside = (0,) * (length - 1), (0,) * length
            self.check(E, "e", (inside, ("port", 0)), [((inside, ("node", 0)), 1)])
            self.check(E, "e", (inside, ("port", 1)), [((around, ("port", 1)), 1)])
            self.check(E, "e", (inside, ("node", 0)), [((inside, ("port", 1)), 5), ((inside + (0,), ("port", 0)), 1)])
        for length in (201, 202, 5000):
            for point in (("port", 0), ("port", 1), ("node", 0)):
                self.check_bad(E, "e", ((0,) * length, point))

    def test_all_places_of_copies(self):
        for atlas, root in ((E, "e"), (B, "a"), (B, "b"), (TWICE, "out"), (FORK, "f")):
            found = copies(atlas, root, 4)
            self.check_copies(atlas, root, found, 3)

    def test_all_places_of_random_atlases(self):
        rng = Random(31)
        for _ in range(60):
            atlas = random_atlas(rng, most_maps=5, most_cost=3)
            root = rng.choice(atlas)[0]
            self.check_copies(atlas, root, copies(atlas, root, 2), 2)

    def check_copies(self, atlas, root, found, depth):
        known = steps(found)
        for address, chart in found.items():
            if len(address) <= depth:
                for place in places_of(chart, address):
                    self.assertEqual(steps_from(atlas, root, place), known.get(place, []))

    def test_places_of_deep_copies(self):
        rng = Random(32)
        for turn in range(30):
            atlas = random_atlas(rng, most_maps=3, most_cost=3) if turn else FULL
            maps = {chart[0]: chart for chart in atlas}
            address, chart = (), maps[atlas[-1][0]]
            length = rng.choice([50, 199, 200])
            # The copies around the place and inside it are all that its steps can be in.
            found = {(): chart}
            while len(address) < length and chart[3]:
                s = rng.randrange(len(chart[3]))
                address, chart = address + (s,), maps[chart[3][s]]
                found[address] = chart
            known = steps(found)
            for place in places_of(chart, address):
                self.check(atlas, atlas[-1][0], place, known.get(place, []))

    def test_other_values(self):
        for value in ODD_VALUES:
            self.check_bad(FORK, "f", value)
        for value in (
            ((2,), ("port", 0)),
            ((-1,), ("port", 0)),
            ((True,), ("port", 0)),
            ((0,), ("port", 2)),
            ((0,), ("node", 1)),
            ((0,), ("node", False)),
            ((0,), ("slot", 0, 0)),
            [(0,), ("port", 0)],
            ([0], ("port", 0)),
            ((0,), ["port", 0]),
            "0/p0",
            steps_from(FORK, "f", ((), ("port", 0))),
            steps_from(FORK, "f", ((), ("port", 0)))[0],
        ):
            self.check_bad(FORK, "f", value)
        rng = Random(33)
        for _ in range(2000):
            self.check_bad(FORK, "f", random_value(rng, 1))


if __name__ == "__main__":
    unittest.main()
