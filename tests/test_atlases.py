"""Atlases: [5] to [10], and [3] as far as atlas_error and is_atlas are concerned."""

import re
import unittest
from random import Random

from slotmaps.atlases import atlas_error, is_atlas
from tests.samples import FULL, ODD_VALUES, B, E, points_of, random_atlas, random_value, with_part_changed

BAD_NAMES = [
    "",
    "abcdefghi",
    "a\n",
    "\na",
    "abcdefgh\n",
    "A",
    "aB",
    "a1",
    "1",
    "a_b",
    "a b",
    " a",
    "a ",
    "`",
    "{",
    "a-",
    None,
    True,
    7,
    ("a",),
    ["a"],
    {"a": 1},
]
RANKS = {"atlas": 0, "map": 1, "slot": 2, "edges": 3, "edge": 4}
# In this atlas a slot of "m" holds a map with fewer ports, and one with more ports than "m".
PORTS = (
    ("big", 4, (), (), ()),
    ("m", 2, ("x", "y", "z"), ("small", "big"), ()),
    ("small", 1, (), (), ()),
)


def is_integer(value):
    return type(value) is int


def reference_name(value):
    return type(value) is str and re.fullmatch("[a-z]{1,8}", value) is not None


def reference_error(value):
    """The words of [9], written once more, over all points of a map and not by bounds."""
    if type(value) is not tuple or len(value) not in range(1, 9):
        return ("atlas",)
    names = []
    for k, item in enumerate(value):
        if not reference_map(item) or (names and not item[0] > names[-1]):
            return ("map", k)
        names.append(item[0])
    for k, item in enumerate(value):
        wrong = [s for s, name in enumerate(item[3]) if names.count(name) == 0]
        if wrong:
            return ("slot", k, wrong[0])
    for k, item in enumerate(value):
        if type(item[4]) is not tuple or len(item[4]) > 40:
            return ("edges", k)
    for k, item in enumerate(value):
        points = [repr(point) for point in points_of(value, item)]
        for e, edge in enumerate(item[4]):
            before = item[4][e - 1] if e else None
            if not reference_edge(edge, points):
                return ("edge", k, e)
            if before and (edge <= before or (edge[0], edge[1]) == (before[0], before[1])):
                return ("edge", k, e)
    return None


def reference_map(item):
    if type(item) is not tuple or len(item) != 5:
        return False
    name, ports, labels, slots, _ = item
    if not (reference_name(name) and is_integer(ports) and ports in (1, 2, 3, 4)):
        return False
    if type(labels) is not tuple or type(slots) is not tuple or len(labels) > 8 or len(slots) > 4:
        return False
    return all(reference_name(word) for word in labels + slots)


def reference_edge(edge, points):
    if type(edge) is not tuple or len(edge) != 3 or repr(edge[0]) == repr(edge[1]):
        return False
    return repr(edge[0]) in points and repr(edge[1]) in points and is_integer(edge[2]) and 0 < edge[2] <= 1000000


def replaced(items, k, item):
    return items[:k] + (item,) + items[k + 1 :]


def with_field(atlas, k, field, value):
    """Return the atlas with one of the five items of a map replaced."""
    return replaced(atlas, k, replaced(atlas[k], field, value))


def with_edge(atlas, k, e, value):
    """Return the atlas with an edge replaced."""
    return with_field(atlas, k, 4, replaced(atlas[k][4], e, value))


def with_edge_part(atlas, k, e, part, value):
    """Return the atlas with the source, target or cost of an edge replaced."""
    return with_edge(atlas, k, e, replaced(atlas[k][4][e], part, value))


def with_only_edge(source, target, cost=1):
    return with_field(PORTS, 1, 4, ((source, target, cost),))


class AtlasTest(unittest.TestCase):
    def check(self, value, reason):
        """The value gives the reason, as a tuple, twice, and is not changed."""
        before = repr(value)
        for _ in range(2):
            found = atlas_error(value)
            self.assertEqual(repr(found), repr(reason))
            self.assertIs(is_atlas(value), reason is None)
        self.assertEqual(repr(value), before)

    def test_examples(self):
        self.check((("a", 1, (), ("b",), ()),), ("slot", 0, 0))
        self.assertIs(is_atlas(E), True)
        self.assertIs(is_atlas(B), True)

    def test_atlases(self):
        self.check(E, None)
        self.check(B, None)
        self.check(FULL, None)
        self.check(PORTS, None)
        self.check((("a", 1, (), (), ()),), None)

    def test_random_atlases(self):
        rng = Random(1)
        for _ in range(300):
            self.check(random_atlas(rng), None)

    def test_not_a_tuple_of_one_to_eight(self):
        nine = tuple([("abcdefg" + letter, 1, (), (), ()) for letter in "abcdefghi"])
        self.check(nine[:8], None)
        for value in (nine, (), list(E), [E[0]], {"e": E[0]}, E * 9, None, True, 0, "", "e", 10**399):
            self.check(value, ("atlas",))

    def test_items_that_are_no_maps(self):
        for k in (0, 3, 7):
            item = FULL[k]
            for value in (list(item), item[:4], item + ((),), (), [], None, True, item[0], {0: item}, (item,)):
                self.check(replaced(FULL, k, value), ("map", k))

    def test_names(self):
        for k in (0, 3, 7):
            for name in BAD_NAMES:
                self.check(with_field(FULL, k, 0, name), ("map", k))

    def test_order_of_names(self):
        for k in (1, 4, 7):
            self.check(with_field(FULL, k, 0, FULL[k - 1][0]), ("map", k))
            self.check(with_field(FULL, k, 0, "a"), ("map", k))
            swapped = replaced(replaced(FULL, k, FULL[k - 1]), k - 1, FULL[k])
            self.check(swapped, ("map", k))
        self.check(with_field(FULL, 2, 0, "z"), ("map", 3))
        self.check((("b", 1, (), (), ()), ("ab", 1, (), (), ())), ("map", 1))
        self.check((("a", 1, (), (), ()), ("ab", 1, (), (), ())), None)

    def test_ports(self):
        for k in (0, 3, 7):
            for ports in (0, 5, -1, True, False, "2", "", None, (2,), [2], 10**399, {}):
                self.check(with_field(FULL, k, 1, ports), ("map", k))
        for ports in (1, 2, 3, 4):
            self.check((("a", ports, (), (), ()),), None)
        self.check((("a", True, (), (), ()),), ("map", 0))

    def test_labels(self):
        for k in (0, 3, 7):
            labels = FULL[k][2]
            for value in (labels + ("x",), list(labels), [], None, "x", "", 8, True, {}, {"x": "y"}):
                self.check(with_field(FULL, k, 2, value), ("map", k))
            for at in (0, 4, 7):
                for name in BAD_NAMES:
                    self.check(with_field(FULL, k, 2, replaced(labels, at, name)), ("map", k))

    def test_slots_that_are_no_names(self):
        for k in (0, 3, 7):
            slots = FULL[k][3]
            for value in (slots + slots[:1], list(slots), [], None, slots[0], "", 4, True, {}):
                self.check(with_field(FULL, k, 3, value), ("map", k))
            for at in (0, 2, 3):
                for name in BAD_NAMES:
                    self.check(with_field(FULL, k, 3, replaced(slots, at, name)), ("map", k))

    def test_slots_without_a_map(self):
        for k in (0, 3, 7):
            for s in (0, 2, 3):
                self.check(with_field(FULL, k, 3, replaced(FULL[k][3], s, "other")), ("slot", k, s))
        self.check((("a", 1, (), ("a", "b", "c"), ()),), ("slot", 0, 1))

    def test_edges_that_are_no_tuple_of_edges(self):
        for k in (0, 3, 7):
            edges = FULL[k][4]
            for value in (edges + edges[:1], edges * 2, list(edges), [], None, True, "", 40, {}):
                self.check(with_field(FULL, k, 4, value), ("edges", k))

    def test_forty_edges_and_one_more(self):
        points = points_of(FULL, FULL[0])
        pairs = sorted((source, target) for source in points for target in points if source != target)
        edges = tuple([pair + (1,) for pair in pairs[:41]])
        self.check(with_field(FULL, 0, 4, edges[:40]), None)
        self.check(with_field(FULL, 0, 4, edges), ("edges", 0))

    def test_items_that_are_no_edges(self):
        for k in (0, 3, 7):
            for e in (0, 20, 39):
                edge = FULL[k][4][e]
                for value in (list(edge), edge[:2], edge + (1,), (), [], None, True, 1, "", {}, (edge,)):
                    self.check(with_edge(FULL, k, e, value), ("edge", k, e))

    def test_costs(self):
        for k in (0, 3, 7):
            for e in (0, 20, 39):
                for cost in (0, -1, 1000001, 10**399, True, False, None, "1", (1,), [1], {}):
                    self.check(with_edge_part(FULL, k, e, 2, cost), ("edge", k, e))
                for cost in (1, 2, 999999, 1000000):
                    self.check(with_edge_part(FULL, k, e, 2, cost), None)

    def test_points(self):
        good = [("node", 0), ("node", 2), ("port", 0), ("port", 1), ("slot", 0, 0), ("slot", 1, 0), ("slot", 1, 3)]
        for source in good:
            for target in good:
                self.check(with_only_edge(source, target), ("edge", 1, 0) if source == target else None)

    def test_values_that_are_no_points(self):
        bad = [
            ("node", 3),
            ("port", 2),
            ("slot", 2, 0),
            ("slot", 0, 1),
            ("slot", 1, 4),
            ("node", -1),
            ("port", -1),
            ("slot", -1, 0),
            ("slot", 0, -1),
            ("node", True),
            ("port", False),
            ("slot", True, 0),
            ("slot", 1, True),
            ("node", "0"),
            ("node", None),
            ("node", []),
            ("node",),
            ("node", 0, 0),
            ("port", 0, 0),
            ("slot", 0),
            ("slot", 0, 0, 0),
            ("nodes", 0),
            ("Port", 0),
            ("", 0),
            (0, 0),
            ([], 0),
            ({}, 0, 0),
            (None, 0),
            ["node", 0],
            ["slot", 0, 0],
            "node",
            (),
            [],
            {},
            None,
            True,
            0,
            ("node", 10**399),
        ]
        for value in bad:
            self.check(with_only_edge(value, ("node", 1)), ("edge", 1, 0))
            self.check(with_only_edge(("node", 1), value), ("edge", 1, 0))
            self.check(with_only_edge(value, value), ("edge", 1, 0))
            for k, e in ((0, 0), (3, 20), (7, 39)):
                if value not in points_of(FULL, FULL[k]):
                    self.check(with_edge_part(FULL, k, e, 0, value), ("edge", k, e))
                    self.check(with_edge_part(FULL, k, e, 1, value), ("edge", k, e))

    def test_order_of_edges(self):
        for k in (0, 3, 7):
            edges = FULL[k][4]
            for e in (1, 20, 39):
                self.check(with_edge(FULL, k, e, edges[e - 1]), ("edge", k, e))
                self.check(with_edge(FULL, k, e, edges[0]), ("edge", k, e))
                swapped = replaced(replaced(edges, e, edges[e - 1]), e - 1, edges[e])
                self.check(with_field(FULL, k, 4, swapped), ("edge", k, e))
                again = edges[e - 1][:2]
                # The same source and target, at a smaller, an equal and a greater cost.
                below = replaced(edges, e - 1, again + (500,))
                for cost in (499, 500, 501):
                    self.check(with_field(FULL, k, 4, replaced(below, e, again + (cost,))), ("edge", k, e))

    def test_words_order_points_before_numbers_do(self):
        low = (("node", 2), ("port", 0), 1)
        high = (("port", 0), ("node", 0), 1)
        self.check(with_field(PORTS, 1, 4, (low, high)), None)
        self.check(with_field(PORTS, 1, 4, (high, low)), ("edge", 1, 1))

    def test_two_rules_broken(self):
        faults = self.faults()
        for k, field, value, reason in faults:
            for at, other_field, other_value, other_reason in faults:
                if (k, field) != (at, other_field):
                    broken = with_field(with_field(FULL, k, field, value), at, other_field, other_value)
                    first = min(reason, other_reason, key=lambda found: (RANKS[found[0]], found[1:]))
                    self.assertEqual(atlas_error(broken), first)

    def test_two_rules_broken_and_one_is_that_of_the_atlas(self):
        for k, field, value, _ in self.faults():
            broken = with_field(FULL, k, field, value)
            self.check(list(broken), ("atlas",))
            self.check(broken + broken[:1], ("atlas",))

    def faults(self):
        """Return tuples (map, field, value, reason): the value in this field of the full atlas breaks one rule."""
        made = []
        for k in (0, 3, 6, 7):
            name, _, _, slots, edges = FULL[k]
            made.append((k, 0, name + "\n", ("map", k)))
            made.append((k, 1, 5, ("map", k)))
            made.append((k, 2, ["x"], ("map", k)))
            made.append((k, 3, slots + slots, ("map", k)))
            made.append((k, 3, replaced(slots, 1, "other"), ("slot", k, 1)))
            made.append((k, 3, replaced(slots, 3, "a"), ("slot", k, 3)))
            made.append((k, 4, list(edges), ("edges", k)))
            for e in (0, 5, 39):
                made.append((k, 4, replaced(edges, e, edges[e][:2] + (True,)), ("edge", k, e)))
                made.append((k, 4, replaced(edges, e, edges[e - 1]), ("edge", k, e if e else 1)))
        return made

    def test_two_rules_broken_in_one_map(self):
        slots = replaced(FULL[4][3], 1, "other")
        both = replaced(replaced(FULL[4][3], 1, "other"), 2, "another")
        self.check(with_field(with_field(FULL, 4, 1, 0), 3, 4, None), ("map", 4))
        self.check(with_field(with_field(FULL, 4, 1, 0), 4, 3, slots), ("map", 4))
        self.check(with_field(with_field(FULL, 4, 4, []), 4, 3, slots), ("slot", 4, 1))
        self.check(with_field(FULL, 4, 3, both), ("slot", 4, 1))
        self.check(with_edge(with_field(FULL, 4, 3, slots), 4, 0, None), ("slot", 4, 1))
        self.check(with_edge(with_edge(FULL, 4, 30, None), 4, 7, ()), ("edge", 4, 7))
        self.check(with_field(with_edge(FULL, 2, 0, None), 4, 4, []), ("edges", 4))
        self.check(with_field(with_field(FULL, 2, 4, None), 5, 3, ("other",)), ("slot", 5, 0))

    def test_edges_of_slots_with_another_map(self):
        edge = (("port", 0), ("slot", 0, 1), 1)
        inner = ("b", 2, (), (), ())
        self.check((("a", 1, (), ("b",), (edge,)), inner), None)
        self.check((("a", 1, (), ("a",), (edge,)), inner), ("edge", 0, 0))
        self.check((("a", 1, (), ("b",), (edge,)), with_field((inner,), 0, 1, 1)[0]), ("edge", 0, 0))

    def test_values_of_any_kind(self):
        for value in ODD_VALUES:
            self.assertIsNotNone(atlas_error(value))
            self.check(value, reference_error(value))
        rng = Random(2)
        for _ in range(3000):
            value = random_value(rng)
            self.check(value, reference_error(value))

    def test_atlases_with_parts_changed(self):
        rng = Random(3)
        counts = {}
        for turn in range(6000):
            value = random_atlas(rng, most_maps=4) if turn & 3 else FULL
            for _ in range(rng.choice([1, 1, 2, 3])):
                value = with_part_changed(value, rng)
            reason = reference_error(value)
            self.check(value, reason)
            word = reason and reason[0]
            counts[word] = counts.get(word, 0) + 1
        # Each answer occurs: the changes are neither too small nor too great.
        self.assertEqual(len(counts), 6)
        self.assertGreater(min(counts.values()), 30)

    def test_results_of_the_package_are_accepted(self):
        for value in (None, ("slot", 0, 0), ("edge", 1, 2), [(0, ((), ("port", 0)))], [(((), ("port", 1)), 1)]):
            self.assertIsNotNone(atlas_error(value))
            self.assertIs(is_atlas(value), False)


if __name__ == "__main__":
    unittest.main()
