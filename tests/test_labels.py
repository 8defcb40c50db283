"""The nearest node with a label: [34]."""

import unittest
from random import Random

from slotmaps.between import cost_between
from slotmaps.errors import BadAtlas, BadLabel, BadPlace, UnknownMap
from slotmaps.labels import nearest
from slotmaps.places import is_place, map_at, within
from tests.drawn import BAD_LABELS, BAD_PLACES, drawn_atlas, finite_atlas, marked_winding_atlas
from tests.samples import FULL, LOOP, ODD_VALUES, UP, B, E, linked_atlas, random_place, random_value
from tests.searches import copies_to, costs_in, ranked_nodes

P0 = ((), ("port", 0))


class NearestTest(unittest.TestCase):
    def check(self, atlas, root, place, label, expected):
        before = repr((atlas, place))
        for _ in range(2):
            self.assertEqual(repr(nearest(atlas, root, place, label)), repr(expected))
        self.assertEqual(repr((atlas, place)), before)

    def test_example(self):
        self.check(E, "e", ((), ("port", 0)), "x", (1, ((), ("node", 0))))

    def test_in_the_copy_of_the_place(self):
        self.check(E, "e", ((0, 0), ("port", 0)), "x", (1, ((0, 0), ("node", 0))))
        self.check(UP, "u", ((0, 1), ("port", 1)), "y", (1, ((0, 1), ("node", 1))))

    def test_the_place_itself(self):
        for length in (0, 1, 5, 200):
            place = ((0,) * length, ("node", 0))
            self.check(E, "e", place, "x", (0, place))
            self.check(LOOP, "o", place, "x", (0, place))
        self.check(UP, "u", ((1,), ("node", 1)), "y", (0, ((1,), ("node", 1))))

    def test_higher_up(self):
        # From the port of a copy far down, only the copies around it have a node that can be reached.
        atlas = (
            ("c", 1, (), ("c",), ((("slot", 0, 0), ("port", 0), 1),)),
            ("r", 1, ("x",), ("c",), ((("slot", 0, 0), ("node", 0), 10),)),
        )
        for length in (1, 2, 50, 200):
            place = ((0,) * length, ("port", 0))
            self.check(atlas, "r", place, "x", (9 + length, ((), ("node", 0))))
            self.check(atlas, "c", place, "x", None)
        # Up three levels and down into the other slot.
        self.check(UP, "u", ((0, 0, 0), ("port", 0)), "y", (5, ((0, 0, 1), ("node", 1))))
        self.check(UP, "u", ((0,), ("node", 0)), "y", (6, ((1,), ("node", 1))))

    def test_one_level_down(self):
        atlas = (
            ("a", 1, (), ("b", "b"), ((("port", 0), ("slot", 0, 0), 5), (("port", 0), ("slot", 1, 0), 4))),
            ("b", 1, ("x",), (), ((("port", 0), ("node", 0), 3),)),
        )
        self.check(atlas, "a", P0, "x", (7, ((1,), ("node", 0))))
        self.check(atlas, "a", ((0,), ("port", 0)), "x", (3, ((0,), ("node", 0))))

    def test_many_levels_down(self):
        # From port i of a, the node is reached by way of all maps and ports behind it.
        for port in range(4):
            atlas = marked_winding_atlas(port)
            for i in range(4):
                levels = 8 * ((port - i) % 4) + 7
                self.check(atlas, "a", ((), ("port", i)), "x", (levels + 1, ((0,) * levels, ("node", 0))))
        atlas = marked_winding_atlas(3)
        for length in (1, 7, 31, 64, 100, 192, 193, 197, 200):
            for i in range(4):
                # All ways lie on one line, up and down; the node lies at each 32nd level of it.
                levels = [at for at in range(length + 33) if at % 8 == 7 and self.port_at(length, i, at) == 3]
                cost, at = min([(abs(at - length) + 1, at) for at in levels])
                found = (cost, ((0,) * at, ("node", 0)))
                self.check(atlas, "a", ((0,) * length, ("port", i)), "x", found)

    def port_at(self, length, i, level):
        """Return the port of the copy at this level of the winding atlas that is joined to port i at so many indexes."""
        return (i + level // 8 - length // 8) % 4

    def test_no_such_label(self):
        for label in ("y", "e", "node", "abcdefgh"):
            self.check(E, "e", ((0, 0), ("node", 0)), label, None)
        self.check(B, "a", ((), ("port", 0)), "x", None)

    def test_a_label_that_cannot_be_reached(self):
        self.check(E, "e", ((), ("port", 1)), "x", None)
        self.check(E, "e", ((0, 0, 0), ("port", 1)), "x", None)
        self.check(UP, "u", ((1,), ("node", 1)), "x", None)
        self.check(UP, "u", ((), ("port", 1)), "x", None)
        self.check(UP, "u", ((), ("port", 1)), "y", (1, ((), ("node", 1))))

    def test_ties(self):
        # Each of the nodes costs 2: in the copy itself, in either slot, and in the slot of a slot.
        edges = (
            (("port", 0), ("node", 0), 2),
            (("port", 0), ("node", 1), 2),
            (("port", 0), ("slot", 0, 0), 1),
            (("port", 0), ("slot", 1, 0), 1),
        )
        inner = ("b", 1, ("x", "x"), (), ((("port", 0), ("node", 0), 1), (("port", 0), ("node", 1), 1)))
        atlas = (("a", 1, ("x", "x"), ("b", "b"), edges), inner)
        self.check(atlas, "a", P0, "x", (2, ((), ("node", 0))))
        # The least point of those that have the label.
        atlas = (("a", 1, ("y", "x"), ("b", "b"), edges), inner)
        self.check(atlas, "a", P0, "x", (2, ((), ("node", 1))))
        # A shorter address comes before the least one.
        atlas = (("a", 1, ("y", "y"), ("b", "b"), edges), inner)
        self.check(atlas, "a", P0, "x", (2, ((0,), ("node", 0))))
        deeper = ("c", 1, (), ("b",), ((("port", 0), ("slot", 0, 0), 1),))
        edges = ((("port", 0), ("slot", 0, 0), 1), (("port", 0), ("slot", 1, 0), 2))
        atlas = (("a", 1, (), ("c", "b"), edges), inner, deeper)
        self.check(atlas, "a", P0, "x", (3, ((1,), ("node", 0))))
        # The least address of those of one length.
        edges = ((("port", 0), ("slot", 0, 0), 2), (("port", 0), ("slot", 1, 0), 1), (("port", 0), ("slot", 2, 0), 1))
        atlas = (("a", 1, (), ("b", "c", "c"), edges), ("b", 1, ("y",), (), ()), inner[:0] + ("c",) + inner[1:])
        self.check(atlas, "a", P0, "x", (2, ((1,), ("node", 0))))

    def test_ties_between_levels(self):
        # From the port of the copy at (1,) a node there and one in the root copy cost the same.
        atlas = (
            ("a", 1, ("x",), ("b", "b"), ((("slot", 1, 0), ("node", 0), 2), (("slot", 1, 0), ("slot", 0, 0), 1))),
            ("b", 1, ("x",), (), ((("port", 0), ("node", 0), 2),)),
        )
        self.check(atlas, "a", ((1,), ("port", 0)), "x", (2, ((), ("node", 0))))
        atlas = (("a", 1, ("y",)) + atlas[0][3:], ("b", 1, ("x",), (), ((("port", 0), ("node", 0), 1),)))
        self.check(atlas, "a", ((1,), ("port", 0)), "x", (1, ((1,), ("node", 0))))
        atlas = (atlas[0][:4] + (((("slot", 1, 0), ("slot", 0, 0), 1),),), ("b", 1, ("x",), (), atlas[1][4]))
        self.check(atlas, "a", ((1,), ("port", 0)), "x", (1, ((1,), ("node", 0))))

    def test_ties_at_one_cost(self):
        """With all edges at one cost there are many nearest nodes; the first of them by rank is returned."""
        rng = Random(901)
        tied = 0
        for _ in range(600):
            atlas = linked_atlas(rng, most_maps=3, most_cost=1, most_nodes=3)
            root = rng.choice(atlas)[0]
            place = random_place(rng, atlas, root, rng.randint(0, 2))
            label = rng.choice(["x", "y"])
            near = copies_to(atlas, root, 6)
            # What costs no more than this lies in copies down to six levels.
            most = 6 - len(place[0])
            ranks = [found for found in ranked_nodes(near, costs_in(atlas, near, place), label) if found[0] <= most]
            if ranks:
                cost, _, address, point = ranks[0]
                self.check(atlas, root, place, label, (cost, (address, point)))
                tied += len(ranks) > 1 and ranks[1][0] == cost
            else:
                found = nearest(atlas, root, place, label)
                self.assertTrue(found is None or found[0] > most)
        self.assertGreater(tied, 30)

    def test_drawn_atlases(self):
        """The answer is such a node at its least cost, and it is not behind any node of all copies near the root."""
        rng = Random(902)
        counts = {}
        for _ in range(400):
            atlas = drawn_atlas(rng)
            root = rng.choice(atlas)[0]
            place = random_place(rng, atlas, root, rng.randint(0, 4))
            label = rng.choice(["x", "y", "longword"])
            found = nearest(atlas, root, place, label)
            near = copies_to(atlas, root, 3, place[0])
            ranks = ranked_nodes(near, costs_in(atlas, near, place), label)
            if found is None:
                self.assertEqual(ranks, [])
            else:
                cost, (address, point) = found
                chart = [chart for chart in atlas if chart[0] == map_at(atlas, root, address)][0]
                self.assertEqual((point[0], chart[2][point[1]]), ("node", label))
                self.assertEqual(cost_between(atlas, root, place, (address, point)), cost)
                if ranks:
                    self.assertLessEqual((cost, len(address), address, point), ranks[0])
                if address in near:
                    self.assertEqual((cost, len(address), address, point), ranks[0])
            kind = "none" if found is None else "deeper" if len(found[1][0]) > len(place[0]) else "higher"
            kind = "here" if found is not None and found[1][0] == place[0] else kind
            counts[kind] = counts.get(kind, 0) + 1
        self.assertEqual(sorted(counts), ["deeper", "here", "higher", "none"])
        self.assertGreater(min(counts.values()), 10)

    def test_finite_expansions(self):
        rng = Random(903)
        for _ in range(150):
            atlas = finite_atlas(rng)
            place = random_place(rng, atlas, "a", rng.randint(0, 3))
            found = copies_to(atlas, "a", 4)
            ranks = ranked_nodes(found, costs_in(atlas, found, place), "x")
            expected = None if not ranks else (ranks[0][0], ranks[0][2:])
            self.check(atlas, "a", place, "x", expected)

    def test_places_within_a_budget(self):
        for place in (((), ("port", 0)), ((0, 1), ("port", 0)), ((1, 0), ("port", 1)), ((1, 1, 0), ("node", 0))):
            for label, j in (("x", 0), ("y", 1)):
                nodes = [(cost, at) for cost, at in within(UP, "u", place, 7) if at[1] == ("node", j)]
                nodes = sorted([(cost, len(at[0]), at) for cost, at in nodes])
                expected = (nodes[0][0], nodes[0][2]) if nodes else None
                self.check(UP, "u", place, label, expected)

    def test_two_hundred_indexes(self):
        deep = (0,) * 200
        atlas = (("o", 1, ("y", "x"), ("o",), (
            (("node", 0), ("slot", 0, 0), 1),
            (("port", 0), ("node", 1), 1),
        )),)
        # The nearest node lies at 201 indexes, which no place that is passed may have.
        found = (2, (deep + (0,), ("node", 1)))
        self.check(atlas, "o", (deep, ("node", 0)), "x", found)
        self.assertFalse(is_place(atlas, "o", found[1]))
        self.check(atlas, "o", (deep, ("port", 0)), "x", (1, (deep, ("node", 1))))
        self.check(LOOP, "o", (deep, ("port", 0)), "x", (3, (deep, ("node", 0))))
        rng = Random(904)
        for _ in range(10):
            atlas = linked_atlas(rng, most_cost=1000000, most_ports=4)
            root = rng.choice(atlas)[0]
            place = random_place(rng, atlas, root, 200)
            found = copies_to(atlas, root, 1, place[0])
            ranks = ranked_nodes(found, costs_in(atlas, found, place), "x")
            answer = nearest(atlas, root, place, "x")
            if ranks:
                self.assertLessEqual((answer[0], len(answer[1][0])) + answer[1], ranks[0])

    def test_bad_places(self):
        for value in BAD_PLACES:
            for label in ("x", None, 0):
                with self.assertRaises(BadPlace):
                    nearest(E, "e", value, label)

    def test_bad_labels(self):
        for value in BAD_LABELS + [None]:
            with self.assertRaises(BadLabel):
                nearest(E, "e", ((), ("port", 0)), value)
            with self.assertRaises(BadLabel):
                nearest(E, "e", ((0,) * 200, ("port", 1)), value)
        rng = Random(905)
        for _ in range(1000):
            value = random_value(rng)
            if value not in ("node", "port", "slot", "a", "e", "x", "abcdefgh"):
                with self.assertRaises(BadLabel):
                    nearest(E, "e", ((), ("port", 0)), value)

    def test_order_of_errors(self):
        for value in ODD_VALUES:
            with self.assertRaises(BadAtlas):
                nearest(value, "f", None, None)
            if value != "e":
                with self.assertRaises(UnknownMap):
                    nearest(E, value, None, None)

    def test_full_atlas(self):
        rng = Random(906)
        root = FULL[0][0]
        for _ in range(20):
            place = random_place(rng, FULL, root, rng.choice([0, 1, 2, 200]))
            found = nearest(FULL, root, place, "labelxyz")
            self.check(FULL, root, place, "labelxyz", found)
            self.check(FULL, root, place, "labelxy", None)


if __name__ == "__main__":
    unittest.main()
