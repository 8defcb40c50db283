"""Places within a budget: [15]."""

import unittest
from random import Random

from slotmaps.errors import BadCost, BadPlace, TooLarge
from slotmaps.places import steps_from, within
from tests.expansion import copies, costs_from, places_of, steps
from tests.samples import ODD_VALUES, B, E, random_atlas
from tests.work import many_calls

BAD_BUDGETS = [None, True, False, -1, -(10**399), "", "1", (), (1,), [], [1], {}, {1: 1}]
# Each place is left by one step of cost 1: nine places of a copy, then those of the copy inside it.
LINE_EDGES = [(("node", j), ("node", j + 1), 1) for j in range(7)]
LINE_EDGES = LINE_EDGES + [(("node", 7), ("slot", 0, 0), 1), (("port", 0), ("node", 0), 1)]
LINE = (("line", 1, ("x",) * 8, ("line",), tuple(LINE_EDGES)),)
# One step of cost 3 down, one of cost 2 up.
LADDER = (("l", 1, (), ("l",), ((("port", 0), ("slot", 0, 0), 3), (("slot", 0, 0), ("port", 0), 2))),)
# Two steps of cost 1 down from each copy: 2 ** n copies at each depth n.
BINARY = (("t", 1, (), ("t", "t"), ((("port", 0), ("slot", 0, 0), 1), (("port", 0), ("slot", 1, 0), 1))),)


def line_place(number):
    """Return place number so many of the line that begins at the port of the root."""
    depth, at = number // 9, number - number // 9 * 9
    return (0,) * depth, (("node", at - 1) if at else ("port", 0))


class WithinTest(unittest.TestCase):
    def check(self, atlas, root, place, budget, expected):
        """The places are these, in this order, in a new list at each call."""
        before = repr((atlas, place, budget))
        first = within(atlas, root, place, budget)
        self.assertEqual(repr(first), repr(expected))
        first.append("changed by the caller")
        second = within(atlas, root, place, budget)
        self.assertEqual(repr(second), repr(expected))
        self.assertEqual(repr((atlas, place, budget)), before)

    def check_error(self, word, *arguments):
        with self.assertRaises(word) as caught:
            within(*arguments)
        self.assertIs(type(caught.exception), word)

    def test_example(self):
        expected = [(0, ((), ("port", 0))), (1, ((), ("node", 0))), (2, ((0,), ("port", 0)))]
        self.check(E, "e", ((), ("port", 0)), 2, expected)

    def test_budget_zero(self):
        for place in (((), ("port", 1)), ((0, 0), ("node", 0)), ((0,) * 200, ("port", 0))):
            self.check(E, "e", place, 0, [(0, place)])

    def test_nothing_to_reach(self):
        for budget in (0, 1, 10**399):
            self.check(E, "e", ((), ("port", 1)), budget, [(0, ((), ("port", 1)))])
            self.check(B, "b", ((), ("port", 1)), budget, [(0, ((), ("port", 1)))])

    def test_great_budgets(self):
        start, end, inside = ((), ("port", 0)), ((), ("port", 1)), ((0,), ("port", 0))
        outside = ((0,), ("port", 1))
        expected = [(0, start), (1, inside), (4, outside), (5, end)]
        for budget in (5, 8, 9, 10**20, 10**399):
            self.check(B, "a", start, budget, expected)
        self.check(B, "a", start, 4, expected[:3])
        self.check(B, "a", start, 3, expected[:2])

    def test_least_costs_and_ties(self):
        atlas = (
            (
                "m",
                2,
                ("x", "y"),
                (),
                (
                    (("node", 0), ("port", 1), 1),
                    (("node", 1), ("node", 0), 1),
                    (("port", 0), ("node", 0), 4),
                    (("port", 0), ("node", 1), 2),
                    (("port", 0), ("port", 1), 3),
                ),
            ),
        )
        expected = [(0, ((), ("port", 0))), (2, ((), ("node", 1))), (3, ((), ("node", 0))), (3, ((), ("port", 1)))]
        self.check(atlas, "m", ((), ("port", 0)), 100, expected)

    def test_up_and_down(self):
        def costs(depth, budget):
            below = [(3 * k, depth + k) for k in range(1, 200) if 3 * k <= budget]
            above = [(2 * k, depth - k) for k in range(depth + 1) if 2 * k <= budget]
            return sorted([(cost, ((0,) * length, ("port", 0))) for cost, length in below + above])

        for depth in (0, 1, 2, 7, 150, 198):
            for budget in (0, 1, 2, 3, 6, 7):
                start = ((0,) * depth, ("port", 0))
                self.check(LADDER, "l", start, budget, costs(depth, budget))

    def test_a_thousand_places_and_one_more(self):
        start = ((), ("port", 0))
        expected = [(number, line_place(number)) for number in range(1000)]
        self.check(LINE, "line", start, 998, expected[:999])
        self.check(LINE, "line", start, 999, expected)
        self.check_error(TooLarge, LINE, "line", start, 1000)
        self.check_error(TooLarge, LINE, "line", start, 10**399)

    def test_a_thousand_places_in_a_breadth(self):
        start = ((), ("port", 0))
        self.assertEqual(len(within(BINARY, "t", start, 8)), 511)
        self.check_error(TooLarge, BINARY, "t", start, 9)
        self.check_error(TooLarge, BINARY, "t", start, 10**399)

    def test_addresses_of_200_and_201_indexes(self):
        down = (("d", 1, (), ("d",), ((("port", 0), ("slot", 0, 0), 2),)),)
        for length in (0, 150, 199, 200):
            start = ((0,) * length, ("port", 0))
            expected = [(2 * k, ((0,) * (length + k), ("port", 0))) for k in range(201 - length)]
            most = 2 * (200 - length)
            self.check(down, "d", start, most, expected)
            self.check(down, "d", start, most + 1, expected)
            self.check_error(TooLarge, down, "d", start, most + 2)
            self.check_error(TooLarge, down, "d", start, 10**399)

    def check_chain(self, costs, down):
        """In a chain of copies, all places of 200 levels are found; a greater budget leads too far.

        With four nodes in each copy there is one place too many, with fewer there is an address that is too long.
        """
        edges = [(("port", 0), ("node", j), cost) for j, cost in enumerate(costs)]
        atlas = (("c", 1, ("x",) * len(costs), ("c",), tuple(edges + [(("port", 0), ("slot", 0, 0), down)])),)
        expected = []
        for level in range(200):
            expected.append((down * level, ((0,) * level, ("port", 0))))
            expected += [(down * level + cost, ((0,) * level, ("node", j))) for j, cost in enumerate(costs)]
        self.check(atlas, "c", ((), ("port", 0)), down * 200 - 1, sorted(expected))
        self.check_error(TooLarge, atlas, "c", ((), ("port", 0)), down * (200 if len(costs) == 4 else 201))
        return atlas

    def test_a_thousand_places_in_two_hundred_levels(self):
        chain = self.check_chain([1, 2, 3, 4], 10)
        start = ((), ("port", 0))
        self.assertEqual(len(within(chain, "c", start, 1994)), 1000)
        self.assertEqual(within(chain, "c", start, 1999), within(chain, "c", start, 1994))
        self.assertEqual(len(within(chain, "c", start, 1993)), 999)
        self.check_error(TooLarge, chain, "c", start, 2000)
        rng = Random(42)
        for _ in range(20):
            down = rng.choice([2, 5, 10, 1000])
            self.check_chain([rng.randint(1, down - 1) for _ in range(rng.randint(0, 4))], down)

    def test_deep_places_take_no_more_work(self):
        """A search goes through the address where it starts, but not through those of all places that it finds."""
        start = ((), ("port", 0))
        shallow = many_calls(within, LINE, "line", start, 899)
        deep = many_calls(within, self.check_chain([], 10), "c", start, 1999)
        self.assertLess(shallow, 900 * 10)
        self.assertLess(deep, 200 * 10)

    def test_a_place_too_deep_beside_others(self):
        top = ((0,) * 200, ("port", 0))
        self.check(LADDER, "l", top, 2, [(0, top), (2, ((0,) * 199, ("port", 0)))])
        self.check_error(TooLarge, LADDER, "l", top, 3)
        below = ((0,) * 199, ("port", 0))
        above = [(cost, ((0,) * length, ("port", 0))) for cost, length in ((2, 198), (4, 197))]
        self.check(LADDER, "l", below, 5, [(0, below), above[0], (3, top), above[1]])
        self.check_error(TooLarge, LADDER, "l", below, 6)

    def test_touching_a_port_too_deep_counts(self):
        # The copy at 201 indexes has no edges, but its port is a place.
        atlas = (
            ("p", 1, (), (), ()),
            ("q", 1, (), ("q", "p"), ((("port", 0), ("slot", 1, 0), 1),)),
        )
        start = ((0,) * 200, ("port", 0))
        self.check(atlas, "q", start, 0, [(0, start)])
        self.check_error(TooLarge, atlas, "q", start, 1)
        near = ((0,) * 199, ("port", 0))
        self.check(atlas, "q", near, 9, [(0, near), (1, ((0,) * 199 + (1,), ("port", 0)))])

    def test_random_atlases(self):
        rng = Random(41)
        reached = 0
        for _ in range(150):
            atlas = random_atlas(rng, most_maps=4, most_slots=2, most_cost=4)
            root = rng.choice(atlas)[0]
            # No path of cost 4 leads from depth 1 to below depth 5.
            found = copies(atlas, root, 5)
            all_steps = steps(found)
            near = []
            for address in [address for address in found if len(address) < 2]:
                near.extend(places_of(found[address], address))
            for place in rng.sample(near, min(len(near), 4)):
                for budget in range(5):
                    costs = costs_from(all_steps, place, budget)
                    expected = sorted([(cost, target) for target, cost in costs.items()])
                    if len(expected) > 1000:
                        self.check_error(TooLarge, atlas, root, place, budget)
                        continue
                    self.assertEqual(within(atlas, root, place, budget), expected)
                    reached = max(reached, len(expected))
        self.assertGreater(reached, 20)

    def test_agrees_with_steps_from(self):
        place = ((0, 0), ("node", 0))
        targets = [target for target, cost in steps_from(E, "e", place) if cost <= 1]
        self.assertEqual([found for cost, found in within(E, "e", place, 1) if cost], targets)

    def test_bad_places(self):
        for value in ODD_VALUES + [((0,) * 201, ("port", 0)), ((0,), ("node", True)), ((0,), ("slot", 0, 0))]:
            for budget in (0, 5, -1, None):
                self.check_error(BadPlace, E, "e", value, budget)

    def test_bad_budgets(self):
        for value in BAD_BUDGETS:
            self.check_error(BadCost, E, "e", ((), ("port", 0)), value)
            self.check_error(BadCost, LADDER, "l", ((0,) * 200, ("port", 0)), value)


if __name__ == "__main__":
    unittest.main()
