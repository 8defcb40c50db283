"""Port tables: [16] to [19]."""

import unittest
from random import Random

from slotmaps.errors import BadAtlas, BadDepth, BadPort, UnknownMap
from slotmaps.tables import depth_profile, is_supporting, limited_tables, port_tables
from tests import oracle
from tests.samples import (
    FULL,
    ODD_VALUES,
    B,
    E,
    K,
    linked_atlas,
    random_atlas,
    random_value,
    turning_atlas,
    winding_atlas,
    with_part_changed,
)

WINDING = winding_atlas()
ALONE = (("z", 3, (), (), ()),)
BAD_DEPTHS = [True, False, None, -1, -(10**59), "0", "", (), (0,), [], [0], {}, {0: 0}, "5", ((),), K, E]
BAD_PORTS = [2, 3, -1, -2, True, False, None, "0", (), (0,), [], {}, 10**399, -(10**399), ("port", 0)]


def drawn_atlases(seed, many):
    """Return atlases of all kinds, with their tables by depth."""
    rng = Random(seed)
    found = []
    for k in range(many):
        if k % 3 == 0:
            atlas = random_atlas(rng, most_cost=rng.choice([1, 9, 1000000]))
        elif k % 3 == 1:
            atlas = linked_atlas(rng, most_maps=8, most_slots=4, most_cost=rng.choice([1, 3, 1000000]), most_ports=4)
        else:
            atlas = turning_atlas(rng, many=rng.choice([1, 2, 4, 8]))
        found.append((atlas, oracle.tables_by_depth(atlas)))
    return found


class PortTablesTest(unittest.TestCase):
    def check(self, atlas, expected):
        before = repr(atlas)
        found = port_tables(atlas)
        self.assertEqual(repr(found), repr(expected))
        self.assertEqual(list(found), [chart[0] for chart in atlas])
        for chart in atlas:
            table = found[chart[0]]
            self.assertIs(type(table), tuple)
            self.assertEqual([(type(row), len(row)) for row in table], [(tuple, chart[1])] * chart[1])
            self.assertEqual([table[i][i] for i in range(chart[1])], [0] * chart[1])
        self.assertEqual(repr(atlas), before)

    def test_examples(self):
        self.check(E, {"e": ((0, 6), (None, 0))})
        self.check(B, {"a": ((0, 5), (None, 0)), "b": ((0, 3), (None, 0))})

    def test_a_map_without_edges(self):
        self.check(ALONE, {"z": ((0, None, None), (None, 0, None), (None, None, 0))})
        self.check((("z", 1, ("x",) * 8, ("z",) * 4, ()),), {"z": ((0,),)})

    def test_touching_a_slot_without_using_its_copy(self):
        # The copy in the slot has no edges; its ports are passed all the same.
        atlas = (
            ("a", 2, (), ("b",), ((("port", 0), ("slot", 0, 0), 2), (("slot", 0, 0), ("port", 1), 3))),
            ("b", 1, (), (), ()),
        )
        self.check(atlas, {"a": ((0, 5), (None, 0)), "b": ((0,),)})

    def test_no_way_by_the_copy_around(self):
        # In the copy in the slot, port 1 can be reached by the copy around it; that is not inside the copy.
        atlas = (("a", 2, (), ("b",), ((("slot", 0, 0), ("slot", 0, 1), 1),)), ("b", 2, (), (), ()))
        self.check(atlas, {"a": ((0, None), (None, 0)), "b": ((0, None), (None, 0))})

    def test_great_costs(self):
        edges = ((("port", 0), ("slot", 0, 0), 1000000), (("slot", 0, 1), ("port", 1), 999999))
        last = ("h", 2, (), (), ((("port", 0), ("port", 1), 1000000),))
        atlas = tuple([(a, 2, (), (b, b), edges) for a, b in zip("abcdefg", "bcdefgh")]) + (last,)
        self.check(atlas, {a: ((0, 1000000 + 1999999 * (7 - k)), (None, 0)) for k, a in enumerate("abcdefgh")})

    def test_drawn_atlases(self):
        sizes = set()
        nones = 0
        for atlas, tables in drawn_atlases(101, 240):
            self.check(atlas, tables[-1])
            sizes.add(len(atlas))
            nones += repr(tables[-1]).count("None")
        self.assertEqual(sizes, set(range(1, 9)))
        self.assertGreater(nones, 100)

    def test_full_atlas(self):
        self.check(FULL, oracle.port_tables(FULL))

    def test_expansions(self):
        """A path of a cost of at most 7 is at most 3 levels deep, and so lies in an expansion of 3 levels."""
        rng = Random(102)
        greatest = 0
        for _ in range(60):
            atlas = linked_atlas(rng, most_cost=2)
            tables = port_tables(atlas)
            for name, ports, _, _, _ in atlas:
                for i in range(ports):
                    costs = oracle.expanded_costs(atlas, name, ((), ("port", i)), 3, 7)
                    for j in range(ports):
                        cost = tables[name][i][j]
                        expected = costs.get(((), ("port", j)))
                        self.assertEqual(cost if cost is None or cost <= 7 else None, expected)
                        greatest = max(greatest, expected or 0)
        self.assertGreater(greatest, 5)

    def test_new_at_each_call(self):
        first = port_tables(E)
        first["e"] = None
        first["f"] = 1
        self.assertEqual(port_tables(E), {"e": ((0, 6), (None, 0))})

    def test_no_atlas(self):
        for value in ODD_VALUES:
            with self.assertRaises(BadAtlas):
                port_tables(value)


class LimitedTablesTest(unittest.TestCase):
    def check(self, atlas, depth, expected):
        self.assertEqual(repr(limited_tables(atlas, depth)), repr(expected), depth)

    def test_example(self):
        self.check(B, 0, {"a": ((0, 9), (None, 0)), "b": ((0, 3), (None, 0))})
        for depth in (1, 2, 95, 10**59):
            self.check(B, depth, {"a": ((0, 5), (None, 0)), "b": ((0, 3), (None, 0))})

    def test_depth_zero_touches_ports_of_slots(self):
        atlas = (
            ("a", 2, (), ("b",), ((("port", 0), ("slot", 0, 0), 2), (("slot", 0, 0), ("port", 1), 3))),
            ("b", 1, (), (), ()),
        )
        self.check(atlas, 0, {"a": ((0, 5), (None, 0)), "b": ((0,),)})

    def test_drawn_atlases(self):
        deepest = 0
        for atlas, tables in drawn_atlases(103, 150):
            for depth in (0, 1, 2, 3, 4, 7, 11, 95, 96, 10**59):
                self.check(atlas, depth, tables[min(depth, len(tables) - 1)])
            deepest = max(deepest, len(tables))
        self.assertGreater(deepest, 12)

    def test_expansions(self):
        rng = Random(104)
        for _ in range(40):
            atlas = linked_atlas(rng, most_cost=5)
            for depth in (0, 1, 2, 3):
                tables = limited_tables(atlas, depth)
                for name, ports, _, _, _ in atlas:
                    for i in range(ports):
                        costs = oracle.expanded_costs(atlas, name, ((), ("port", i)), depth)
                        row = tuple([costs.get(((), ("port", j))) for j in range(ports)])
                        self.assertEqual(tables[name][i], row)

    def test_many_levels_at_the_exact_depth(self):
        """Each way of WINDING that turns once more needs eight levels more."""
        for name, i, j, depth, cost in (("a", 0, 1, 0, 1), ("h", 3, 0, 1, 3), ("b", 0, 1, 31, 63), ("a", 1, 2, 24, 49)):
            if depth:
                self.assertIsNone(limited_tables(WINDING, depth - 1)[name][i][j])
            self.assertEqual(limited_tables(WINDING, depth)[name][i][j], cost)
            self.assertEqual(limited_tables(WINDING, 10**59)[name][i][j], cost)
        tables = oracle.tables_by_depth(WINDING)
        for depth in range(len(tables)):
            self.check(WINDING, depth, tables[depth])

    def test_an_expansion_of_forty_levels(self):
        costs = oracle.expanded_costs(WINDING, "b", ((), ("port", 0)), 31)
        self.assertEqual(costs[((), ("port", 1))], 63)
        self.assertNotIn(((), ("port", 1)), oracle.expanded_costs(WINDING, "b", ((), ("port", 0)), 30))

    def test_bad_depths(self):
        for value in BAD_DEPTHS + [odd for odd in ODD_VALUES if odd is not None]:
            with self.assertRaises(BadDepth):
                limited_tables(E, value)
        for value in ((), [E], None):
            with self.assertRaises(BadAtlas):
                limited_tables(value, -1)

    def test_new_at_each_call(self):
        limited_tables(E, 5).clear()
        self.check(E, 5, {"e": ((0, 6), (None, 0))})


class DepthProfileTest(unittest.TestCase):
    def check(self, atlas, name, i, j, expected):
        found = depth_profile(atlas, name, i, j)
        self.assertEqual(repr(found), repr(expected))
        found.append(1)
        self.assertEqual(depth_profile(atlas, name, i, j), expected)

    def test_example(self):
        self.check(B, "a", 0, 1, [(0, 9), (1, 5)])

    def test_none_one_and_many(self):
        self.check(E, "e", 1, 0, [])
        self.check(E, "e", 0, 1, [(0, 6)])
        self.check(ALONE, "z", 2, 1, [])
        self.check(WINDING, "b", 0, 1, [(31, 63)])

    def test_a_port_and_itself(self):
        for atlas in (E, B, ALONE, WINDING, FULL):
            for name, ports, _, _, _ in atlas:
                for i in range(ports):
                    self.check(atlas, name, i, i, [(0, 0)])

    def test_changes_of_limited_tables(self):
        longest = 0
        deepest = 0
        for atlas, tables in drawn_atlases(105, 120):
            for name, ports, _, _, _ in atlas:
                for i in range(ports):
                    for j in range(ports):
                        entries = [None] + [found[name][i][j] for found in tables]
                        changes = [
                            (depth, entries[depth + 1])
                            for depth in range(len(tables))
                            if entries[depth + 1] != entries[depth]
                        ]
                        self.assertEqual(depth_profile(atlas, name, i, j), changes)
                        longest = max(longest, len(changes))
                        deepest = max([deepest] + [depth for depth, _ in changes])
        self.assertGreater(longest, 4)
        self.assertGreater(deepest, 10)

    def test_bad_ports(self):
        for value in BAD_PORTS:
            for i, j in ((value, 0), (0, value), (value, value)):
                with self.assertRaises(BadPort):
                    depth_profile(E, "e", i, j)
        for value in (1, 2):
            with self.assertRaises(BadPort):
                depth_profile((("z", 1, (), (), ()),), "z", 0, value)

    def test_order_of_errors(self):
        with self.assertRaises(BadAtlas):
            depth_profile(None, "f", 9, 9)
        for name in ("f", None, True, [], ("e",)):
            with self.assertRaises(UnknownMap):
                depth_profile(E, name, 9, 9)


class IsSupportingTest(unittest.TestCase):
    def check(self, atlas, value, expected):
        before = repr(value)
        self.assertIs(is_supporting(atlas, value), expected, before[:300])
        self.assertEqual(repr(value), before)

    def test_examples(self):
        self.check(E, {"e": ((0, 3), (None, 0))}, True)
        self.check(E, {"e": ((0, 7), (None, 0))}, False)

    def test_each_entry(self):
        for entry, expected in ((0, True), (5, True), (6, True), (7, False), (10**399, False), (None, False)):
            self.check(E, {"e": ((0, entry), (None, 0))}, expected)
        # No edge leaves port 1, so that nothing bounds what a path from there is said to cost.
        for entry in (0, 10**399, None):
            self.check(E, {"e": ((0, 6), (entry, 0))}, True)
        for diagonal in (1, None):
            self.check(E, {"e": ((diagonal, 6), (None, 0))}, False)
            self.check(E, {"e": ((0, 6), (None, diagonal))}, False)
        self.check(E, {"e": ((0, 0), (0, 0))}, True)

    def test_tables_of_one_another(self):
        self.check(B, {"a": ((0, 5), (None, 0)), "b": ((0, 3), (None, 0))}, True)
        self.check(B, {"a": ((0, 5), (None, 0)), "b": ((0, 2), (None, 0))}, False)
        self.check(B, {"a": ((0, 4), (None, 0)), "b": ((0, 2), (None, 0))}, True)
        self.check(B, {"a": ((0, 9), (None, 0)), "b": ((0, None), (None, 0))}, False)

    def test_a_set_that_holds_itself_up(self):
        # Nothing but the copy in the slot leads from port 0 to port 1, so that None is right and 2 is less.
        atlas = (("s", 2, (), ("s",), ((("port", 0), ("slot", 0, 0), 1), (("slot", 0, 1), ("port", 1), 1))),)
        self.check(atlas, {"s": ((0, None), (None, 0))}, True)
        self.check(atlas, {"s": ((0, 10**399), (None, 0))}, True)
        self.assertEqual(port_tables(atlas), {"s": ((0, None), (None, 0))})

    def test_port_tables(self):
        for atlas, tables in drawn_atlases(106, 90):
            self.check(atlas, port_tables(atlas), True)
            self.check(atlas, tables[-1], True)

    def test_tables_with_entries_changed(self):
        rng = Random(107)
        counts = {True: 0, False: 0}
        for atlas, found in drawn_atlases(108, 90):
            for _ in range(20):
                value = {name: list(map(list, rows)) for name, rows in found[-1].items()}
                for _ in range(rng.randint(1, 3)):
                    rows = value[rng.choice(list(value))]
                    i, j = rng.randrange(len(rows)), rng.randrange(len(rows))
                    cost = rows[i][j]
                    rows[i][j] = rng.choice([None, 0, 1, 7, 10**399, cost, (cost or 1) + 1, max(0, (cost or 0) - 1)])
                value = {name: tuple(map(tuple, rows)) for name, rows in value.items()}
                expected = oracle.is_supporting(atlas, value)
                counts[expected] += 1
                self.check(atlas, value, expected)
        self.assertGreater(min(counts.values()), 300)

    def test_the_tables_are_the_greatest_set(self):
        for atlas, found in drawn_atlases(109, 45):
            for name, rows in found[-1].items():
                for i in range(len(rows)):
                    for j in range(len(rows)):
                        if rows[i][j] is None:
                            continue
                        for cost in (rows[i][j] + 1, None):
                            row = rows[i][:j] + (cost,) + rows[i][j + 1 :]
                            self.check(atlas, {**found[-1], name: rows[:i] + (row,) + rows[i + 1 :]}, False)

    def test_values_of_another_form(self):
        rows = ((0, 6), (None, 0))
        self.check(E, {"e": rows}, True)
        for value in (
            {},
            {"e": rows, "f": rows},
            {"e": rows, None: rows},
            {"f": rows},
            {0: rows},
            {True: rows},
            {"e\n": rows},
            {"E": rows},
            {("e",): rows},
            [("e", rows)],
            (("e", rows),),
            ["e"],
            "e",
            {"e": [(0, 6), (None, 0)]},
            {"e": ([0, 6], [None, 0])},
            {"e": ((0, 6), [None, 0])},
            {"e": {0: (0, 6), 1: (None, 0)}},
            {"e": ((0, 6),)},
            {"e": ((0, 6), (None, 0), (None, 0))},
            {"e": ((0, 6), (None, 0, 0))},
            {"e": ((0, 6), (None,))},
            {"e": ((0,), (None, 0))},
            {"e": ((0, 6), None)},
            {"e": ((0, 6), 0)},
            {"e": ((0, 6), "00")},
            {"e": ("06", "00")},
            {"e": "06"},
            {"e": None},
            {"e": 0},
            {"e": ((0, True), (None, 0))},
            {"e": ((False, 6), (None, 0))},
            {"e": ((0, 6), (None, False))},
            {"e": ((0, 6), (False, 0))},
            {"e": ((0, "6"), (None, 0))},
            {"e": ((0, -1), (None, 0))},
            {"e": ((0, 6), (-1, 0))},
            {"e": ((-1, 6), (None, 0))},
            {"e": ((0, ()), (None, 0))},
            {"e": ((0, []), (None, 0))},
            {"e": ((0, {}), (None, 0))},
        ):
            self.check(E, value, False)

    def test_values_of_any_kind(self):
        rng = Random(110)
        tables = port_tables(FULL)
        for value in ODD_VALUES + [K, tables["abcdefgs"], [tables]]:
            self.check(FULL, value, False)
            self.check(E, value, False)
            self.check(E, {"e": value}, False)
            self.check(E, {"e": ((0, 6), value)}, False)
            if value is not None:
                self.check(E, {"e": ((0, value), (None, 0))}, False)
        for _ in range(2000):
            self.check(E, random_value(rng), False)
        changed = 0
        for _ in range(2000):
            value = port_tables(B)
            name = rng.choice("ab")
            value[name] = with_part_changed(value[name], rng)
            self.check(B, value, oracle.is_supporting(B, value))
            changed += oracle.is_supporting(B, value)
        self.assertGreater(changed, 20)

    def test_no_atlas(self):
        for value in ODD_VALUES:
            with self.assertRaises(BadAtlas):
                is_supporting(value, {})


if __name__ == "__main__":
    unittest.main()
