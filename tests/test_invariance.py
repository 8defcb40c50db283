"""What stays the same, over the whole program, when an atlas is written in another way: consequences of [1] to [50]."""

import unittest
from random import Random

from slotmaps.atlases import is_atlas
from slotmaps.between import cost_between, outer_table
from slotmaps.certificates import bars, certificate
from slotmaps.counting import count_at, count_mod
from slotmaps.errors import TooLarge
from slotmaps.labels import nearest
from slotmaps.limits import cost_avoiding, cost_to_depth, levels_between
from slotmaps.measures import measure
from slotmaps.meetings import meeting
from slotmaps.places import map_at, within
from slotmaps.replacing import same_outside, summarized, summary, with_edge, with_slot
from slotmaps.routes import best_route, count_best
from slotmaps.tables import depth_profile, is_supporting, limited_tables, port_tables
from slotmaps.texts import format_atlas, parse_atlas
from slotmaps.trips import best_trip, measure_trip
from tests.drawn import drawn_atlas
from tests.samples import linked_atlas, points_of, random_place, random_places


def rewritten(atlas, names=None, nodes=None, slots=None, factor=1):
    """Return the atlas with other names, other orders of nodes and slots, and multiplied costs.

    names maps each name to another one; nodes and slots map each name to a list with the new index of each old one.
    """
    names = names or {chart[0]: chart[0] for chart in atlas}
    made = []
    for name, ports, labels, inner, edges in atlas:
        node_order = (nodes or {}).get(name, list(range(len(labels))))
        slot_order = (slots or {}).get(name, list(range(len(inner))))
        new_labels = tuple([label for _, label in sorted(zip(node_order, labels))])
        new_slots = tuple([names[other] for _, other in sorted(zip(slot_order, inner))])

        def moved(point):
            if point[0] == "node":
                return ("node", node_order[point[1]])
            return ("slot", slot_order[point[1]], point[2]) if point[0] == "slot" else point

        new_edges = sorted([(moved(source), moved(target), cost * factor) for source, target, cost in edges])
        made.append((names[name], ports, new_labels, new_slots, tuple(new_edges)))
    return tuple(sorted(made))


def moved_place(atlas, root, place, nodes=None, slots=None):
    """Return the place in the rewritten atlas."""
    address = []
    name = root
    maps = {chart[0]: chart for chart in atlas}
    for s in place[0]:
        address.append((slots or {}).get(name, list(range(4)))[s])
        name = maps[name][3][s]
    word, j = place[1]
    return tuple(address), (word, nodes[name][j] if nodes and word == "node" else j)


def drawn_orders(rng, atlas, part):
    """Return a new order of the nodes (part 2) or slots (part 3) of each map."""
    return {chart[0]: rng.sample(range(len(chart[part])), len(chart[part])) for chart in atlas}


def told(atlas, root, first, second):
    """Return what the program tells of two places and a root map, but for names and indexes."""
    found = nearest(atlas, root, first, "x")
    met = meeting(atlas, root, first, second)
    trip = best_trip(atlas, root, first, second)
    return {
        "table": port_tables(atlas)[root],
        "limited": [limited_tables(atlas, depth)[root] for depth in (0, 1, 2, 10)],
        "profile": depth_profile(atlas, root, 0, 0),
        "outer": outer_table(atlas, root, first[0]),
        "cost": cost_between(atlas, root, first, second),
        "levels": levels_between(atlas, root, first, second),
        "avoiding": cost_avoiding(atlas, root, first, second, [second[0][:1]]),
        "nearest": None if found is None else (found[0], len(found[1][0])),
        "meeting": None if met is None else (met[0], len(met[1][0])),
        "trip": None if trip is None else measure_trip(atlas, root, first, trip)[1],
        "counts": [count_at(atlas, root, first, label, depth) for label in ("x", None) for depth in (0, 1, 3, 40)],
        "paths": count_best(atlas, root, ("port", 0), ("port", 0)),
        "within": len(within(atlas, root, first, 0)),
    }


class InvarianceTest(unittest.TestCase):
    def drawn(self, seed, many):
        """Return atlases with a root and two places."""
        rng = Random(seed)
        found = []
        for _ in range(many):
            atlas = rng.choice([drawn_atlas, linked_atlas])(rng)
            root = rng.choice(atlas)[0]
            found.append((rng, atlas, root) + random_places(rng, atlas, root, 3))
        return found

    def test_other_names(self):
        letters = "abcdefghijklmnopqrstuvwxyz"
        for rng, atlas, root, first, second in self.drawn(1401, 40):
            new = rng.sample([a + b for a in letters for b in letters], len(atlas))
            names = {chart[0]: name for chart, name in zip(atlas, new)}
            other = rewritten(atlas, names)
            self.assertTrue(is_atlas(other))
            self.assertEqual(told(other, names[root], first, second), told(atlas, root, first, second))
            self.assertEqual(nearest(other, names[root], first, "x"), nearest(atlas, root, first, "x"))
            self.assertEqual(meeting(other, names[root], first, second), meeting(atlas, root, first, second))
            self.assertEqual(map_at(other, names[root], first[0]), names[map_at(atlas, root, first[0])])

    def test_other_orders_of_nodes_and_slots(self):
        for rng, atlas, root, first, second in self.drawn(1402, 40):
            nodes, slots = drawn_orders(rng, atlas, 2), drawn_orders(rng, atlas, 3)
            other = rewritten(atlas, None, nodes, slots)
            self.assertTrue(is_atlas(other))
            places = [moved_place(atlas, root, place, nodes, slots) for place in (first, second)]
            self.assertEqual(told(other, root, *places), told(atlas, root, first, second))
            self.assertEqual(cost_between(rewritten(atlas, None, nodes), root, *[
                moved_place(atlas, root, place, nodes) for place in (first, second)
            ]), cost_between(atlas, root, first, second))

    def test_multiplied_costs(self):
        def times(value, factor):
            return None if value is None else value * factor

        rng = Random(1403)
        for _ in range(40):
            atlas = linked_atlas(rng, most_cost=1000)
            root = rng.choice(atlas)[0]
            first, second = random_places(rng, atlas, root, 3)
            factor = rng.choice([2, 7, 1000])
            other = rewritten(atlas, factor=factor)
            before, behind = told(atlas, root, first, second), told(other, root, first, second)
            for word in ("cost", "avoiding", "trip"):
                self.assertEqual(behind[word], times(before[word], factor))
            for word in ("nearest", "meeting"):
                if before[word] is not None:
                    self.assertEqual(behind[word], (before[word][0] * factor, before[word][1]))
            self.assertEqual(behind["levels"], [(depth, cost * factor) for depth, cost in before["levels"]])
            self.assertEqual(behind["counts"], before["counts"])
            table = tuple([tuple([times(cost, factor) for cost in row]) for row in before["table"]])
            self.assertEqual(behind["table"], table)

    def test_an_edge_made_cheaper_or_dearer(self):
        changed = 0
        for rng, atlas, root, first, second in self.drawn(1404, 80):
            chart = rng.choice([chart for chart in atlas if chart[4]] or [None])
            if chart is None:
                continue
            source, target, cost = rng.choice(chart[4])
            before = cost_between(atlas, root, first, second)
            dearer = with_edge(atlas, chart[0], source, target, min(1000000, cost + rng.randint(1, 9)))
            cheaper = with_edge(atlas, chart[0], source, target, max(1, cost - rng.randint(1, 9)))
            for other, sign in ((dearer, 1), (cheaper, -1)):
                behind = cost_between(other, root, first, second)
                self.assertEqual(behind is None, before is None)
                if before is not None:
                    self.assertGreaterEqual(sign * behind, sign * before)
                    changed += behind != before
                for found, least in (
                    (nearest(other, root, first, "x"), nearest(atlas, root, first, "x")),
                    (meeting(other, root, first, second), meeting(atlas, root, first, second)),
                ):
                    self.assertEqual(found is None, least is None)
                    if least is not None:
                        self.assertGreaterEqual(sign * found[0], sign * least[0])
                # The old tables bound the new costs from below if the edge is dearer.
                if sign == 1:
                    self.assertTrue(is_supporting(other, port_tables(atlas)))
                    tables, floors = certificate(atlas, root, first, second)
                    self.assertTrue(bars(other, root, first, second, before, (tables, floors)))
        self.assertGreater(changed, 5)

    def test_a_map_exchanged_for_its_summary(self):
        exchanged = 0
        for rng, atlas, root, first, second in self.drawn(1405, 60):
            # Places of the root copy, in a root map that stays as it is.
            first, second = random_place(rng, atlas, root, 0), random_place(rng, atlas, root, 0)
            for chart in atlas:
                if chart[0] == root or root in self.inside(atlas, chart[0]):
                    continue
                try:
                    short = summary(atlas, chart[0])
                except TooLarge:
                    continue
                other = tuple([short if old == chart else old for old in atlas])
                self.assertEqual(port_tables(other), port_tables(atlas))
                self.assertTrue(same_outside(other, chart[0], chart[0]))
                self.assertEqual(cost_between(other, root, first, second), cost_between(atlas, root, first, second))
                exchanged += 1
        self.assertGreater(exchanged, 20)

    def inside(self, atlas, name):
        """Return the names of all maps inside a map."""
        maps = {chart[0]: chart for chart in atlas}
        found, pending = {}, list(maps[name][3])
        while pending:
            inner = pending.pop()
            if inner not in found:
                found[inner] = True
                pending.extend(maps[inner][3])
        return found

    def test_a_map_exchanged_for_one_of_the_same_table(self):
        exchanged = 0
        for rng, atlas, root, _, _ in self.drawn(1406, 80):
            try:
                short = summarized(atlas)
            except TooLarge:
                continue
            if len(atlas) == 8:
                continue
            # Beside the maps stands the summary of the first one, under another name.
            name, twin = short[0][0], "zzz"
            both = atlas + ((twin,) + short[0][1:],)
            self.assertTrue(same_outside(both, name, twin))
            for chart in atlas:
                for s, inner in enumerate(chart[3]):
                    if inner == name:
                        other = with_slot(both, chart[0], s, twin)
                        self.assertEqual(port_tables(other), port_tables(both))
                        exchanged += 1
        self.assertGreater(exchanged, 20)

    def test_a_slot_written_out(self):
        written = 0
        for rng, atlas, root, first, second in self.drawn(1407, 150):
            chart = [chart for chart in atlas if chart[0] == root][0]
            if not chart[3]:
                continue
            s = rng.randrange(len(chart[3]))
            inner = [other for other in atlas if other[0] == chart[3][s]][0]
            flat = written_out(chart, s, inner)
            other = tuple(sorted(list(atlas) + [flat]))
            if not is_atlas(other):
                continue
            tables = port_tables(other)
            self.assertEqual(tables[flat[0]], tables[root])
            # Node for node, the copy of the flat map is the copy of the root with that of its slot.
            starts = [(node, ((), node)) for node in points_of(atlas, chart) if node[0] != "slot"]
            starts += [(("node", len(chart[2]) + j), ((s,), ("node", j))) for j in range(len(inner[2]))]
            for point, place in starts:
                for other_point, other_place in starts:
                    route = best_route(other, flat[0], point, other_point)
                    cost = None if route is None else measure(other, route)[0]
                    self.assertEqual(cost, cost_between(atlas, root, place, other_place))
            written += 1
        self.assertGreater(written, 30)

    def test_two_atlases_in_one(self):
        for rng, atlas, root, first, second in self.drawn(1408, 40):
            other = linked_atlas(rng, most_maps=3)
            names = {chart[0]: "z" + chart[0][:6] for chart in other}
            both = tuple(sorted(atlas + rewritten(other, names)))
            if len(both) > 8 or len(set([chart[0] for chart in both])) < len(both):
                continue
            self.assertTrue(is_atlas(both))
            self.assertEqual(told(both, root, first, second), told(atlas, root, first, second))
            tables = port_tables(both)
            self.assertEqual({name: tables[name] for name in port_tables(atlas)}, port_tables(atlas))
            self.assertEqual(parse_atlas(format_atlas(both)), both)

    def test_one_level_down(self):
        """What is inside the copy in a slot is as if that copy were the root, but for paths that leave it."""
        for rng, atlas, root, first, second in self.drawn(1409, 60):
            if not first[0] or not second[0] or first[0][0] != second[0][0]:
                continue
            inner = map_at(atlas, root, first[0][:1])
            places = [(place[0][1:], place[1]) for place in (first, second)]
            inside = cost_between(atlas, inner, *places)
            whole = cost_between(atlas, root, first, second)
            if inside is not None:
                self.assertLessEqual(whole, inside)
            for depth in (0, 1, 2, 5):
                shallow = cost_to_depth(atlas, inner, *places, depth)
                if shallow is not None:
                    self.assertLessEqual(cost_to_depth(atlas, root, first, second, depth + 1), shallow)
            try:
                many = count_mod(atlas, inner, places[0], "x", 3, 10**9)
            except TooLarge:
                continue
            self.assertLessEqual(many, count_at(atlas, root, first, "x", 4))


def written_out(chart, s, inner):
    """Return a map in which the copy in slot s is written out: its nodes and slots, and its ports as nodes."""
    name, ports, labels, slots, edges = chart
    first = len(labels)
    first_port = first + len(inner[2])
    kept = [k for k in range(len(slots)) if k != s]

    def outer_point(point):
        if point[0] == "slot" and point[1] == s:
            return ("node", first_port + point[2])
        return ("slot", kept.index(point[1]), point[2]) if point[0] == "slot" else point

    def inner_point(point):
        if point[0] == "slot":
            return ("slot", len(kept) + point[1], point[2])
        return ("node", (first if point[0] == "node" else first_port) + point[1])

    made = {}
    for point, all_edges in ((outer_point, edges), (inner_point, inner[4])):
        for source, target, cost in all_edges:
            pair = (point(source), point(target))
            made[pair] = min(cost, made.get(pair, cost))
    new_labels = labels + inner[2] + ("port",) * inner[1]
    new_slots = tuple([slots[k] for k in kept]) + inner[3]
    return ("zz", ports, new_labels, new_slots, tuple(sorted([pair + (cost,) for pair, cost in made.items()])))


if __name__ == "__main__":
    unittest.main()
