"""The examples of the document, as it prints them, and those of README.md."""

import doctest
import unittest
from pathlib import Path

from slotmaps.atlases import atlas_error, is_atlas
from slotmaps.between import cost_between, outer_table
from slotmaps.certificates import bars, certificate
from slotmaps.counting import count_at, count_mod
from slotmaps.cutting import join_routes, slice_route
from slotmaps.labels import nearest
from slotmaps.limits import cost_avoiding, cost_to_depth, levels_between
from slotmaps.measures import measure
from slotmaps.meetings import meeting
from slotmaps.places import is_place, map_at, steps_from, within
from slotmaps.reading import cost_at, point_at, step_at
from slotmaps.replacing import same_outside, summarized, with_edge, with_slot, without_edge
from slotmaps.routes import best_route, count_best
from slotmaps.shell import Shell
from slotmaps.tables import depth_profile, is_supporting, limited_tables, port_tables
from slotmaps.texts import format_atlas, format_place, parse_place
from slotmaps.travellers import Traveller
from slotmaps.trips import best_trip, measure_trip
from tests import samples

EXAMPLES = r"""
[8]
    >>> E = (("e", 2, ("x",), ("e",), ((("node", 0), ("port", 1), 5), (("node", 0), ("slot", 0, 0), 1), (("port", 0), ("node", 0), 1), (("slot", 0, 1), ("port", 1), 1))),)
    >>> B = (("a", 2, (), ("b",), ((("port", 0), ("port", 1), 9), (("port", 0), ("slot", 0, 0), 1), (("slot", 0, 1), ("port", 1), 1))), ("b", 2, (), (), ((("port", 0), ("port", 1), 3),)))
    >>> K = [("e", ("port", 0), ("port", 1), (("edge", 2), ("edge", 0))), ("e", ("port", 0), ("port", 1), (("edge", 2), ("edge", 1), ("call", 0, 0), ("edge", 3)))]
    >>> [E, B, K] == [samples.E, samples.B, samples.K]
    True

[9]
    >>> atlas_error((("a", 1, (), ("b",), ()),))
    ('slot', 0, 0)

[10]
    >>> is_atlas(E)
    True

[11]
    >>> map_at(E, "e", (0, 0))
    'e'

[12]
    >>> is_place(E, "e", ((0,), ("node", 1)))
    False

[14]
    >>> steps_from(E, "e", ((0,), ("port", 1)))
    [(((), ('port', 1)), 1)]

[15]
    >>> within(E, "e", ((), ("port", 0)), 2)
    [(0, ((), ('port', 0))), (1, ((), ('node', 0))), (2, ((0,), ('port', 0)))]

[16]
    >>> port_tables(E)
    {'e': ((0, 6), (None, 0))}

[17]
    >>> limited_tables(B, 0)["a"]
    ((0, 9), (None, 0))

[18]
    >>> depth_profile(B, "a", 0, 1)
    [(0, 9), (1, 5)]

[19]
    >>> [is_supporting(E, {"e": ((0, 3), (None, 0))}), is_supporting(E, {"e": ((0, 7), (None, 0))})]
    [True, False]

[22]
    >>> measure(E, K)
    (9, 5, 1)

[23]
    >>> measure(B, best_route(B, "a", ("port", 0), ("port", 1)))
    (5, 3, 1)

[24]
    >>> count_best(E, "e", ("port", 0), ("port", 1))
    1

[25]
    >>> [step_at(E, K, 2), point_at(E, K, 2), cost_at(E, K, 3)]
    [((0,), 2), ((0,), ('port', 0)), 3]

[26]
    >>> measure(E, slice_route(E, K, 1, 4))
    (7, 3, 1)

[27]
    >>> measure(E, join_routes(E, slice_route(E, K, 0, 1), slice_route(E, K, 1, 5)))
    (9, 5, 1)

[28]
    >>> cost_between(E, "e", ((0, 0), ("node", 0)), ((), ("port", 1)))
    7

[29]
    >>> outer_table(E, "e", (0,))
    ((0, None), (None, 0))

[30]
    >>> measure_trip(E, "e", ((), ("port", 0)), [((), K)])
    (((), ('port', 1)), 9, 5)

[31]
    >>> measure_trip(E, "e", ((0, 0), ("node", 0)), best_trip(E, "e", ((0, 0), ("node", 0)), ((), ("port", 1))))
    (((), ('port', 1)), 7, 3)

[33]
    >>> p, q = ((), ("port", 0)), ((), ("port", 1))
    >>> paper = certificate(E, "e", p, q)
    >>> [bars(E, "e", p, q, 6, paper), bars(E, "e", p, q, 7, paper), bars(E, "e", p, q, None, paper)]
    [True, False, False]

[34]
    >>> nearest(E, "e", ((), ("port", 0)), "x")
    (1, ((), ('node', 0)))

[35]
    >>> count_at(E, "e", ((), ("port", 0)), "x", 9)
    1

[36]
    >>> count_mod(E, "e", ((), ("port", 0)), None, 10 ** 18, 7)
    1

[37]
    >>> meeting(E, "e", ((), ("node", 0)), ((0,), ("port", 0)))
    (1, ((0,), ('port', 0)))

[38]
    >>> same_outside(B, "a", "b")
    False

[39]
    >>> summarized(E)
    (('e', 2, (), (), ((('port', 0), ('port', 1), 6),)),)

[40]
    >>> port_tables(with_slot(B, "a", 0, "a"))["a"]
    ((0, 9), (None, 0))

[41]
    >>> port_tables(with_edge(E, "e", ("node", 0), ("port", 1), 4))
    {'e': ((0, 5), (None, 0))}
    >>> port_tables(without_edge(E, "e", ("node", 0), ("port", 1)))
    {'e': ((0, None), (None, 0))}

[43]
    >>> t = Traveller(E, "e", ((), ("port", 0)))
    >>> t.move(((0,), ("node", 0)))
    >>> [t.here(), t.spent(), t.history()]
    [((0,), ('node', 0)), 3, [('move', ((0,), ('node', 0)))]]

[44]
    >>> format_atlas(E)
    'map e 2\nnode x\nslot e\nedge n0 p1 5\nedge n0 s0.0 1\nedge p0 n0 1\nedge s0.1 p1 1'
    >>> format_place(((0, 0), ("node", 0)))
    '0.0/n0'

[45]
    >>> parse_place("/p1")
    ((), ('port', 1))

[48]
    >>> s = Shell()
    >>> s.run("load\n" + format_atlas(E))
    'ok'
    >>> [s.run("table e"), s.run("cost e 0.0/n0 /p1"), s.run("enter e /p0"), s.run("nearest x")]
    ['0 6; - 0', '7', 'ok', '1 /n0']

[49]
    >>> cost_to_depth(B, "a", ((), ("port", 0)), ((), ("port", 1)), 0)
    9
    >>> levels_between(B, "a", ((), ("port", 0)), ((), ("port", 1)))
    [(0, 9), (1, 5)]

[50]
    >>> cost_avoiding(B, "a", ((), ("port", 0)), ((), ("port", 1)), [(0,)])
    9
"""
NAMES = {
    "samples": samples,
    "atlas_error": atlas_error,
    "is_atlas": is_atlas,
    "map_at": map_at,
    "is_place": is_place,
    "steps_from": steps_from,
    "within": within,
    "port_tables": port_tables,
    "limited_tables": limited_tables,
    "depth_profile": depth_profile,
    "is_supporting": is_supporting,
    "measure": measure,
    "best_route": best_route,
    "count_best": count_best,
    "step_at": step_at,
    "point_at": point_at,
    "cost_at": cost_at,
    "slice_route": slice_route,
    "join_routes": join_routes,
    "cost_between": cost_between,
    "outer_table": outer_table,
    "measure_trip": measure_trip,
    "best_trip": best_trip,
    "certificate": certificate,
    "bars": bars,
    "nearest": nearest,
    "count_at": count_at,
    "count_mod": count_mod,
    "meeting": meeting,
    "cost_to_depth": cost_to_depth,
    "levels_between": levels_between,
    "cost_avoiding": cost_avoiding,
    "same_outside": same_outside,
    "summarized": summarized,
    "with_slot": with_slot,
    "with_edge": with_edge,
    "without_edge": without_edge,
    "Traveller": Traveller,
    "format_atlas": format_atlas,
    "format_place": format_place,
    "parse_place": parse_place,
    "Shell": Shell,
}


class ExamplesTest(unittest.TestCase):
    def check(self, text, names, many):
        """All of the examples in the text, so many, print what stands below them."""
        test = doctest.DocTestParser().get_doctest(text, names, "examples", None, 0)
        told = []
        result = doctest.DocTestRunner(verbose=False).run(test, out=told.append)
        self.assertEqual((result.failed, "".join(told)), (0, ""))
        self.assertEqual((result.attempted, len(test.examples)), (many, many))

    def test_document(self):
        self.check(EXAMPLES, dict(NAMES), 48)

    def test_readme(self):
        readme = Path(__file__).resolve().parent.parent / "README.md"
        self.check(readme.read_text(encoding="utf-8"), {}, 47)


if __name__ == "__main__":
    unittest.main()
