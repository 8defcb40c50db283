"""The order of exceptions in [4], and what [3] says of arguments and results, for the functions of places."""

import unittest
from itertools import product

from slotmaps import errors
from slotmaps.atlases import atlas_error
from slotmaps.places import is_place, map_at, steps_from, within
from tests.samples import FULL, ODD_VALUES, B, E

ATLASES = [
    (E, None),
    (None, ("atlas",)),
    ((), ("atlas",)),
    (list(E), ("atlas",)),
    (True, ("atlas",)),
    ((E[0][:4],), ("map", 0)),
    ((list(E[0]),), ("map", 0)),
    ((E[0], E[0]), ("map", 1)),
    ((E[0], ("f", True, (), (), ())), ("map", 1)),
    ((E[0], ("f", 1, (), ("e", "g"), ())), ("slot", 1, 1)),
    ((E[0], ("f", 1, (), (), [])), ("edges", 1)),
    ((E[0][:4] + (E[0][4] + E[0][4][:1],),), ("edge", 0, 4)),
]
ROOTS = [
    ("e", True),
    ("f", False),
    ("", False),
    ("e\n", False),
    ("E", False),
    (None, False),
    (True, False),
    (0, False),
    (("e",), False),
    (["e"], False),
    ({"e": 1}, False),
    (([],), False),
]
ADDRESSES = [((), True), ((0,) * 200, True), ((1,), False), ((0,) * 201, False), ([0], False), (None, False)]
PLACES = [
    (((0,), ("port", 0)), True),
    (((), ("node", 0)), True),
    (((0,) * 200, ("port", 1)), True),
    (((0,), ("port", 2)), False),
    (((0,), ("slot", 0, 0)), False),
    (((True,), ("port", 0)), False),
    (((0,) * 201, ("port", 0)), False),
    ([(), ("port", 0)], False),
    (None, False),
    ({}, False),
]
BUDGETS = [(0, True), (2, True), (-1, False), (True, False), (None, False), ("1", False), ([], False)]


class OrderTest(unittest.TestCase):
    def expect(self, function, arguments, word, reason=None):
        """The call raises exactly this class, or nothing if word is None; the arguments stay as they are."""
        before = repr(arguments)
        found = None
        try:
            function(*arguments)
        except Exception as error:
            found = error
        self.assertIs(type(found), type(None) if word is None else word, before[:300])
        if word is errors.BadAtlas:
            self.assertEqual(repr(found.reason), repr(reason))
        self.assertEqual(repr(arguments), before)

    def first_error(self, reason, known, rest):
        """Return the class that is listed first: rest has a truth and a class for each argument after the root."""
        if reason is not None:
            return errors.BadAtlas
        if not known:
            return errors.UnknownMap
        wrong = [word for good, word in rest if not good]
        return wrong[0] if wrong else None

    def test_reasons_are_those_of_atlas_error(self):
        for atlas, reason in ATLASES:
            self.assertEqual(atlas_error(atlas), reason)

    def test_map_at(self):
        for (atlas, reason), (root, known), (address, good) in product(ATLASES, ROOTS, ADDRESSES):
            word = self.first_error(reason, known, [(good, errors.BadAddress)])
            self.expect(map_at, (atlas, root, address), word, reason)

    def test_is_place(self):
        for (atlas, reason), (root, known), (place, good) in product(ATLASES, ROOTS, PLACES):
            word = self.first_error(reason, known, [])
            self.expect(is_place, (atlas, root, place), word, reason)
            if word is None:
                self.assertIs(is_place(atlas, root, place), good)

    def test_steps_from(self):
        for (atlas, reason), (root, known), (place, good) in product(ATLASES, ROOTS, PLACES):
            word = self.first_error(reason, known, [(good, errors.BadPlace)])
            self.expect(steps_from, (atlas, root, place), word, reason)

    def test_within(self):
        for (atlas, reason), (root, known), (place, good), (budget, right) in product(ATLASES, ROOTS, PLACES, BUDGETS):
            rest = [(good, errors.BadPlace), (right, errors.BadCost)]
            self.expect(within, (atlas, root, place, budget), self.first_error(reason, known, rest), reason)

    def test_too_large_comes_last(self):
        start = ((0,) * 200, ("node", 0))
        self.expect(within, (E, "e", start, 1), errors.TooLarge)
        self.expect(within, ((), "e", start, 1), errors.BadAtlas, ("atlas",))
        self.expect(within, (E, "f", start, 1), errors.UnknownMap)
        self.expect(within, (E, "e", ((0,) * 201, ("node", 0)), 1), errors.BadPlace)
        self.expect(within, (E, "e", start, True), errors.BadCost)

    def test_atlases_of_any_kind(self):
        for value in ODD_VALUES:
            reason = atlas_error(value)
            self.expect(map_at, (value, "e", ()), errors.BadAtlas, reason)
            self.expect(is_place, (value, None, ()), errors.BadAtlas, reason)
            self.expect(steps_from, (value, "e", ()), errors.BadAtlas, reason)
            self.expect(within, (value, "e", (), 1), errors.BadAtlas, reason)

    def test_roots_of_any_kind(self):
        for value in ODD_VALUES:
            if value != "e":
                self.expect(map_at, (E, value, ()), errors.UnknownMap)
                self.expect(is_place, (E, value, ((), ("port", 0))), errors.UnknownMap)
                self.expect(steps_from, (E, value, ((), ("port", 0))), errors.UnknownMap)
                self.expect(within, (E, value, ((), ("port", 0)), 1), errors.UnknownMap)

    def test_every_map_is_a_root(self):
        for atlas in (E, B, FULL):
            for chart in atlas:
                self.expect(map_at, (atlas, chart[0], ()), None)
                self.expect(is_place, (atlas, chart[0], None), None)
                self.expect(steps_from, (atlas, chart[0], ((), ("port", 0))), None)
                self.expect(within, (atlas, chart[0], ((), ("port", 0)), 0), None)

    def test_a_call_that_raises_changes_nothing(self):
        place = ((0,), ("node", 0))
        before = (steps_from(E, "e", place), within(E, "e", place, 3))
        self.expect(steps_from, (E, "e", None), errors.BadPlace)
        self.expect(within, (E, "e", place, 10**6), errors.TooLarge)
        self.expect(within, (E, "e", place, -1), errors.BadCost)
        self.assertEqual((steps_from(E, "e", place), within(E, "e", place, 3)), before)


if __name__ == "__main__":
    unittest.main()
