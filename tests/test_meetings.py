"""The best meeting place: [37]."""

import unittest
from random import Random

from slotmaps.between import cost_between
from slotmaps.errors import BadAtlas, BadPlace, UnknownMap
from slotmaps.meetings import meeting
from slotmaps.places import is_place
from tests.drawn import BAD_PLACES, drawn_atlas, finite_atlas
from tests.expansion import places_of
from tests.samples import FULL, LOOP, ODD_VALUES, UP, B, E, linked_atlas, random_place, random_places
from tests.searches import copies_to, costs_in, ranked_meetings

P0, P1 = ((), ("port", 0)), ((), ("port", 1))


def falling_atlas(shift, many=8):
    """Return an atlas of maps in a ring with ways down alone; they turn by so many ports when they have gone around.

    Only the ports 2 and 3 of the last map lead to a node.
    """
    names = "abcdefgh"[:many]
    maps = []
    for k, name in enumerate(names):
        turn = shift if k == many - 1 else 0
        edges = [(("port", i), ("slot", 0, (i + turn) % 4), 1) for i in range(4)]
        labels = ()
        if k == many - 1:
            edges += [(("port", 2), ("node", 0), 1), (("port", 3), ("node", 0), 1)]
            labels = ("x",)
        maps.append((name, 4, labels, (names[(k + 1) % many],), tuple(sorted(edges))))
    return tuple(maps)


class MeetingTest(unittest.TestCase):
    def check(self, atlas, root, first, second, expected):
        """The meeting is the same in both orders of the places."""
        before = repr((atlas, first, second))
        for pair in ((first, second), (second, first)):
            for _ in range(2):
                self.assertEqual(repr(meeting(atlas, root, *pair)), repr(expected))
        self.assertEqual(repr((atlas, first, second)), before)

    def test_example(self):
        self.check(E, "e", ((), ("node", 0)), ((0,), ("port", 0)), (1, ((0,), ("port", 0))))

    def test_the_same_place(self):
        for atlas, root in ((E, "e"), (B, "a"), (UP, "u"), (LOOP, "o")):
            for address, chart in copies_to(atlas, root, 2).items():
                for place in places_of(chart, address):
                    self.check(atlas, root, place, place, (0, place))
        deep = ((0,) * 200, ("node", 0))
        self.check(E, "e", deep, deep, (0, deep))

    def test_in_one_copy(self):
        self.check(E, "e", P0, P1, (6, P1))
        self.check(E, "e", ((0,), ("node", 0)), ((0,), ("port", 0)), (1, ((0,), ("node", 0))))
        atlas = (("a", 2, ("x", "y"), (), (
            (("port", 0), ("node", 0), 4),
            (("port", 0), ("node", 1), 2),
            (("port", 1), ("node", 0), 1),
            (("port", 1), ("node", 1), 2),
        )),)
        self.check(atlas, "a", P0, P1, (4, ((), ("node", 1))))

    def test_at_one_of_the_two(self):
        self.check(E, "e", ((0, 0), ("node", 0)), P1, (7, P1))
        self.check(E, "e", P0, ((0, 0), ("node", 0)), (5, ((0, 0), ("node", 0))))
        self.check(LOOP, "o", P0, ((0,), ("port", 0)), (5, ((0,), ("port", 0))))

    def test_copies_beside_one_another(self):
        # The ports of the two copies lead to a node of the copy around them.
        atlas = (
            ("a", 1, ("x",), ("b", "b"), ((("slot", 0, 0), ("node", 0), 3), (("slot", 1, 0), ("node", 0), 4))),
            ("b", 1, ("y",), (), ((("node", 0), ("port", 0), 1),)),
        )
        first, second = ((0,), ("node", 0)), ((1,), ("node", 0))
        self.check(atlas, "a", first, second, (9, ((), ("node", 0))))
        self.check(atlas, "a", first, ((1,), ("port", 0)), (8, ((), ("node", 0))))
        self.check(atlas, "b", ((), ("node", 0)), P0, (1, P0))

    def test_higher_than_both(self):
        atlas = (
            ("r", 1, ("x",), ("s", "s"), ((("slot", 0, 0), ("node", 0), 3), (("slot", 1, 0), ("node", 0), 4))),
            ("s", 1, (), ("s",), ((("slot", 0, 0), ("port", 0), 1),)),
        )
        for length in (1, 2, 30, 200):
            for other in (1, 5, 200):
                first, second = ((0,) * length, ("port", 0)), ((1,) + (0,) * (other - 1), ("port", 0))
                self.check(atlas, "r", first, second, (3 + 4 + length - 1 + other - 1, ((), ("node", 0))))

    def test_none(self):
        atlas = (("a", 2, (), ("a",), ((("port", 0), ("slot", 0, 0), 1), (("port", 1), ("slot", 0, 1), 1))),)
        self.check(atlas, "a", P0, P1, None)
        self.check(atlas, "a", ((0,) * 200, ("port", 0)), P1, None)
        self.check(atlas, "a", ((0,) * 200, ("port", 0)), P0, (200, ((0,) * 200, ("port", 0))))
        self.check(E, "e", P1, ((0,), ("port", 0)), (7, P1))
        self.check(UP, "u", ((1,), ("node", 1)), ((0,), ("node", 1)), None)

    def test_many_levels_down(self):
        # From the ports 0 and 1 of the root, the ports 2 and 3 come after one or two rounds of the ring.
        for shift, many, levels in ((1, 8, 23), (2, 8, 15), (3, 8, 23), (1, 4, 11), (1, 2, 5), (2, 1, 1), (1, 1, 2)):
            found = (2 * levels + 2, ((0,) * levels, ("node", 0)))
            self.check(falling_atlas(shift, many), "a", P0, P1, found)
            deeper = (found[0], ((0,) * (200 + levels), ("node", 0)))
            if 200 % many == 0 and (200 // many * shift) % 4 == 0:
                places = [((0,) * 200, ("port", i)) for i in (0, 1)]
                self.check(falling_atlas(shift, many), "a", *places, deeper)
        # One of the two places lies some levels down already.
        self.check(falling_atlas(1), "a", P0, ((0,) * 9, ("port", 2)), (23 + 14 + 2, ((0,) * 23, ("node", 0))))

    def test_thirty_levels_down(self):
        # Only after three rounds and seven maps do both come to ports that lead to the node.
        first, second = P0, ((), ("port", 3))
        self.check(falling_atlas(1), "a", first, second, (2 * 31 + 2, ((0,) * 31, ("node", 0))))
        for length in (8, 40, 200):
            places = [((0,) * length, ("port", (i + length // 8) % 4)) for i in (0, 3)]
            levels = 31 - length % 32
            found = (2 * levels + 2, ((0,) * (length + levels), ("node", 0)))
            self.check(falling_atlas(1), "a", *places, found)

    def test_ties(self):
        edges = (
            (("port", 0), ("node", 0), 2),
            (("port", 0), ("node", 1), 2),
            (("port", 0), ("slot", 0, 0), 1),
            (("port", 0), ("slot", 1, 0), 2),
            (("port", 1), ("node", 0), 2),
            (("port", 1), ("node", 1), 2),
            (("port", 1), ("slot", 0, 1), 1),
            (("port", 1), ("slot", 1, 1), 2),
        )
        inner = ("b", 2, ("x", "x"), (), (
            (("port", 0), ("node", 0), 1),
            (("port", 0), ("node", 1), 1),
            (("port", 1), ("node", 0), 1),
            (("port", 1), ("node", 1), 1),
        ))
        self.check((("a", 2, ("x", "x"), ("b", "b"), edges), inner), "a", P0, P1, (4, ((), ("node", 0))))
        fewer = tuple([edge for edge in edges if edge[:2] != (("port", 1), ("node", 0))])
        self.check((("a", 2, ("x", "x"), ("b", "b"), fewer), inner), "a", P0, P1, (4, ((), ("node", 1))))
        fewer = tuple([edge for edge in edges if edge[0] == ("port", 0) or edge[1][0] == "slot"])
        self.check((("a", 2, ("x", "x"), ("b", "b"), fewer), inner), "a", P0, P1, (4, ((0,), ("node", 0))))
        same = tuple([edge[:2] + (1,) for edge in fewer if edge[1][0] == "slot"])
        self.check((("a", 2, (), ("b", "b"), same), inner), "a", P0, P1, (4, ((0,), ("node", 0))))
        # A shorter address comes first, also where the meeting at the longer one is in an earlier slot.
        deeper = ("c", 2, (), ("d",), ((("port", 0), ("slot", 0, 0), 1), (("port", 1), ("slot", 0, 0), 1)))
        outer = ("a", 2, (), ("c", "d"), (
            (("port", 0), ("slot", 0, 0), 1),
            (("port", 0), ("slot", 1, 0), 2),
            (("port", 1), ("slot", 0, 1), 1),
            (("port", 1), ("slot", 1, 0), 2),
        ))
        self.check((outer, deeper, ("d", 1, (), (), ())), "a", P0, P1, (4, ((1,), ("port", 0))))
        # Nodes come before ports: both places lead to a node and to the port of the root at the same cost.
        atlas = (("a", 3, ("x",), (), (
            (("port", 0), ("node", 0), 1),
            (("port", 0), ("port", 2), 1),
            (("port", 1), ("node", 0), 1),
            (("port", 1), ("port", 2), 1),
        )),)
        self.check(atlas, "a", P0, P1, (2, ((), ("node", 0))))

    def test_ties_along_a_path(self):
        # With one path from the one place to the other, each place of it is a meeting of the same cost.
        for length in (1, 2, 200):
            self.check(LOOP, "o", P0, ((0,) * length, ("port", 0)), (5 * length, ((0,) * length, ("port", 0))))
        atlas = (("a", 2, ("x",), ("a",), (
            (("node", 0), ("port", 1), 1),
            (("port", 0), ("node", 0), 1),
            (("slot", 0, 1), ("node", 0), 1),
        )),)
        # Only one of the two can move.
        self.check(atlas, "a", ((0, 0), ("port", 0)), P1, (6, P1))
        both = (("a", 1, ("x",), ("a",), (
            (("node", 0), ("port", 0), 1),
            (("node", 0), ("slot", 0, 0), 1),
            (("port", 0), ("node", 0), 1),
            (("slot", 0, 0), ("node", 0), 1),
        )),)
        # The shortest address on the way is that of the copy higher up; there the node comes before the port.
        for first, second in (((3, "port"), (0, "port")), ((200, "node"), (1, "port")), ((200, "port"), (7, "node"))):
            places = [((0,) * length, (word, 0)) for length, word in (first, second)]
            cost = cost_between(both, "a", *places)
            self.check(both, "a", *places, (cost, (places[1][0], ("node", 0))))

    def test_ties_at_one_cost(self):
        rng = Random(911)
        tied = 0
        for _ in range(400):
            atlas = linked_atlas(rng, most_maps=3, most_cost=1)
            root = rng.choice(atlas)[0]
            first, second = random_places(rng, atlas, root, 2)
            near = copies_to(atlas, root, 6)
            ranks = ranked_meetings(near, costs_in(atlas, near, first), costs_in(atlas, near, second))
            # Farther down than six levels both have gone at least so many steps.
            most = 2 * 6 - len(first[0]) - len(second[0])
            if ranks and ranks[0][0] <= most:
                self.check(atlas, root, first, second, (ranks[0][0], ranks[0][2:]))
                tied += len(ranks) > 1 and ranks[1][0] == ranks[0][0]
            else:
                found = meeting(atlas, root, first, second)
                self.assertTrue(found is None or found[0] > most)
        self.assertGreater(tied, 100)

    def test_drawn_atlases(self):
        """The total is that of the two costs, and the meeting is not behind any at a place near the root."""
        rng = Random(912)
        counts = {}
        for _ in range(300):
            atlas = drawn_atlas(rng)
            root = rng.choice(atlas)[0]
            first, second = random_places(rng, atlas, root, 4)
            near = copies_to(atlas, root, 3, first[0], second[0])
            ranks = ranked_meetings(near, costs_in(atlas, near, first), costs_in(atlas, near, second))
            found = meeting(atlas, root, first, second)
            self.check(atlas, root, first, second, found)
            if found is None:
                self.assertEqual(ranks, [])
                kind = "none"
            else:
                cost, place = found
                costs = [cost_between(atlas, root, start, place) for start in (first, second)]
                self.assertEqual(cost, sum(costs))
                if ranks:
                    self.assertLessEqual((cost, len(place[0])) + place, ranks[0])
                if place[0] in near:
                    self.assertEqual((cost, len(place[0])) + place, ranks[0])
                deeper = len(place[0]) > max(len(first[0]), len(second[0]))
                higher = len(place[0]) < min(len(first[0]), len(second[0]))
                kind = "one" if place in (first, second) else "deeper" if deeper else "higher" if higher else "other"
            counts[kind] = counts.get(kind, 0) + 1
        self.assertEqual(sorted(counts), ["deeper", "higher", "none", "one", "other"])
        self.assertGreater(min(counts.values()), 5)

    def test_finite_expansions(self):
        rng = Random(913)
        for _ in range(150):
            atlas = finite_atlas(rng)
            first, second = random_places(rng, atlas, "a", 3)
            found = copies_to(atlas, "a", 4)
            ranks = ranked_meetings(found, costs_in(atlas, found, first), costs_in(atlas, found, second))
            self.check(atlas, "a", first, second, (ranks[0][0], ranks[0][2:]) if ranks else None)

    def test_two_hundred_indexes(self):
        rng = Random(914)
        for _ in range(10):
            atlas = linked_atlas(rng, most_cost=1000000, most_ports=4)
            root = rng.choice(atlas)[0]
            first, second = random_place(rng, atlas, root, 200), random_place(rng, atlas, root, 200)
            near = copies_to(atlas, root, 1, first[0], second[0])
            ranks = ranked_meetings(near, costs_in(atlas, near, first), costs_in(atlas, near, second))
            found = meeting(atlas, root, first, second)
            if ranks:
                self.assertLessEqual((found[0], len(found[1][0])) + found[1], ranks[0])
            if found is not None and is_place(atlas, root, found[1]):
                costs = [cost_between(atlas, root, start, found[1]) for start in (first, second)]
                self.assertEqual(found[0], sum(costs))

    def test_full_atlas(self):
        rng = Random(915)
        root = FULL[0][0]
        for _ in range(10):
            first, second = random_places(rng, FULL, root, 3)
            self.check(FULL, root, first, second, meeting(FULL, root, first, second))

    def test_bad_places(self):
        for value in BAD_PLACES:
            for first, second in ((value, P0), (P0, value), (value, value)):
                with self.assertRaises(BadPlace):
                    meeting(E, "e", first, second)

    def test_order_of_errors(self):
        for value in ODD_VALUES:
            with self.assertRaises(BadAtlas):
                meeting(value, "f", None, None)
            if value != "e":
                with self.assertRaises(UnknownMap):
                    meeting(E, value, None, None)


if __name__ == "__main__":
    unittest.main()
