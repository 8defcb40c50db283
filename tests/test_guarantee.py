"""The main guarantee, [2], over all that answers questions about places: the answers agree with one another."""

import unittest
from random import Random

from slotmaps.between import cost_between
from slotmaps.certificates import bars, certificate
from slotmaps.counting import count_at
from slotmaps.labels import nearest
from slotmaps.limits import cost_avoiding, cost_to_depth, levels_between
from slotmaps.meetings import meeting
from slotmaps.places import is_place
from slotmaps.trips import best_trip, measure_trip
from tests import oracle
from tests.drawn import drawn_atlas, finite_atlas
from tests.expansion import copies, costs_from, places_of, steps
from tests.samples import random_place, random_places
from tests.searches import ranked_meetings, ranked_nodes


class GuaranteeTest(unittest.TestCase):
    def check_one_answer(self, atlas, root, first, second):
        """There is a trip with a certificate that no trip costs less, or a certificate that there is no trip."""
        trip = best_trip(atlas, root, first, second)
        value = certificate(atlas, root, first, second)
        cost = cost_between(atlas, root, first, second)
        if trip is None:
            self.assertIsNone(cost)
        else:
            self.assertEqual(measure_trip(atlas, root, first, trip)[:2], (second, cost))
            self.assertFalse(bars(atlas, root, first, second, cost + 1, value))
        self.assertTrue(bars(atlas, root, first, second, cost, value))
        self.assertIs(bars(atlas, root, first, second, None, value), cost is None)
        return cost

    def check_limits(self, atlas, root, first, second, cost):
        """With all levels and all copies the cost is the least one; with fewer it is no less."""
        levels = levels_between(atlas, root, first, second)
        self.assertEqual(levels[-1][1] if levels else None, cost)
        self.assertEqual(cost_to_depth(atlas, root, first, second, 10**59), cost)
        self.assertEqual(cost_avoiding(atlas, root, first, second, []), cost)
        for depth, at_depth in levels:
            self.assertEqual(cost_to_depth(atlas, root, first, second, depth), at_depth)
        # Without the copies below some depth that are on the way, a path can be no cheaper than to this depth.
        closed = [first[0][:k] for k in range(1, len(first[0]) + 1)][:20]
        without = cost_avoiding(atlas, root, first, second, closed)
        if without is not None:
            self.assertIsNotNone(cost)
            self.assertGreaterEqual(without, cost)

    def check_meeting(self, atlas, root, first, second, cost):
        """The meeting costs no more than a path from either place to the other, and both paths to it are there."""
        found = meeting(atlas, root, first, second)
        other = cost_between(atlas, root, second, first)
        for least in (cost, other):
            if least is not None:
                self.assertLessEqual(found[0], least)
        if found is not None and is_place(atlas, root, found[1]):
            costs = [self.check_one_answer(atlas, root, start, found[1]) for start in (first, second)]
            self.assertEqual(sum(costs), found[0])

    def check_nearest(self, atlas, root, first):
        """The nearest node is there, and there is none exactly if no node is counted at any depth."""
        for label in ("x", "y"):
            found = nearest(atlas, root, first, label)
            if found is None:
                depths = range(len(first[0]) + 34)
                self.assertEqual(sum([count_at(atlas, root, first, label, depth) for depth in depths]), 0)
                continue
            cost, place = found
            self.assertGreater(count_at(atlas, root, first, label, len(place[0])), 0)
            self.assertEqual(self.check_one_answer(atlas, root, first, place), cost)
            self.assertEqual(nearest(atlas, root, place, label), (0, place))
            self.assertLessEqual(meeting(atlas, root, first, place)[0], cost)

    def test_drawn_places(self):
        rng = Random(971)
        counts = {True: 0, False: 0}
        for _ in range(150):
            atlas = drawn_atlas(rng)
            root = rng.choice(atlas)[0]
            first, second = random_places(rng, atlas, root, rng.choice([1, 3, 8]))
            cost = self.check_one_answer(atlas, root, first, second)
            self.check_limits(atlas, root, first, second, cost)
            self.check_meeting(atlas, root, first, second, cost)
            self.check_nearest(atlas, root, first)
            counts[cost is None] += 1
        self.assertGreater(min(counts.values()), 20)

    def test_places_far_down(self):
        rng = Random(972)
        for _ in range(12):
            atlas = drawn_atlas(rng)
            root = rng.choice(atlas)[0]
            first, second = random_places(rng, atlas, root, 160)
            cost = self.check_one_answer(atlas, root, first, second)
            self.check_limits(atlas, root, first, second, cost)
            self.check_meeting(atlas, root, first, second, cost)
            self.check_nearest(atlas, root, first)

    def test_finite_expansions(self):
        """All answers are those of a search through the whole expansion."""
        rng = Random(973)
        for _ in range(100):
            atlas = finite_atlas(rng)
            found = copies(atlas, "a", 4)
            places = [place for address, chart in found.items() for place in places_of(chart, address)]
            first = random_place(rng, atlas, "a", 3)
            costs = costs_from(steps(found), first, oracle.HUGE)
            for second in rng.sample(places, min(len(places), 6)):
                cost = self.check_one_answer(atlas, "a", first, second)
                self.assertEqual(cost, costs.get(second))
                self.check_limits(atlas, "a", first, second, cost)
                other_costs = costs_from(steps(found), second, oracle.HUGE)
                ranks = ranked_meetings(found, costs, other_costs)
                expected = (ranks[0][0], ranks[0][2:]) if ranks else None
                self.assertEqual(meeting(atlas, "a", first, second), expected)
            for label in ("x", "y"):
                ranks = ranked_nodes(found, costs, label)
                expected = (ranks[0][0], ranks[0][2:]) if ranks else None
                self.assertEqual(nearest(atlas, "a", first, label), expected)
                for depth in range(5):
                    many = len([ranked for ranked in ranks if ranked[1] == depth])
                    self.assertEqual(count_at(atlas, "a", first, label, depth), many)


if __name__ == "__main__":
    unittest.main()
