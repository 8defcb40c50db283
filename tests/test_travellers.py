"""Travellers: [42] and [43]."""

import unittest
from random import Random

from slotmaps.between import cost_between
from slotmaps.errors import (
    BadAddress,
    BadAtlas,
    BadCost,
    BadEdit,
    BadPlace,
    BadPoint,
    BadSlot,
    BadStep,
    NoEdge,
    NoRoute,
    NothingToDo,
    SlotmapsError,
    UnknownMap,
)
from slotmaps.places import is_place, steps_from
from slotmaps.replacing import with_edge, with_slot, without_edge
from slotmaps.travellers import Traveller
from tests.drawn import BAD_PLACES, drawn_atlas
from tests.samples import FULL, LOOP, ODD_VALUES, UP, B, E, linked_atlas, points_of, random_place, random_value

P0, P1 = ((), ("port", 0)), ((), ("port", 1))
INNER = ((0,), ("node", 0))
BAD_EDITS = [
    None, True, 0, "", "edge", (), [], {}, ("edge",), ("cut",), ("slot",), ("move", P0), ("step", 0), ("undo",),
    ["edge", "e", ("node", 0), ("port", 1), 4], ("edge", "e", ("node", 0), ("port", 1)), ("cut", "e", ("node", 0)),
    ("edge", "e", ("node", 0), ("port", 1), 4, 4), ("cut", "e", ("node", 0), ("port", 1), 4), ("slot", "e", 0),
    ("slot", "e", 0, "e", "e"), ("Edge", "e", ("node", 0), ("port", 1), 4), ("edges", "e", ("node", 0), ("port", 1), 4),
    (None, "e", ("node", 0), ("port", 1), 4), (["cut"], "e", ("node", 0), ("port", 1)), ("edge", "e", 0, "e"),
    ("slot", "e", ("node", 0), ("port", 1), 4), ("cut\n", "e", ("node", 0), ("port", 1)), ({}, "e", 0, "e"),
]


def state(traveller):
    """Return all that a traveller tells of itself."""
    return traveller.here(), traveller.spent(), traveller.current_atlas(), traveller.history()


class TravellerTest(unittest.TestCase):
    def check(self, traveller, place, total, atlas, history):
        expected = (place, total, atlas, history)
        self.assertEqual(repr(state(traveller)), repr(expected))

    def check_error(self, traveller, word, function, *arguments):
        """The call raises just this class and changes nothing."""
        before = repr(state(traveller))
        with self.assertRaises(word) as caught:
            function(*arguments)
        self.assertIs(type(caught.exception), word)
        self.assertEqual(repr(state(traveller)), before)
        return caught.exception

    def test_example(self):
        t = Traveller(E, "e", P0)
        self.assertIsNone(t.move(INNER))
        self.assertEqual([t.here(), t.spent(), t.history()], [INNER, 3, [("move", INNER)]])

    def test_new(self):
        for place in (P0, INNER, ((0,) * 200, ("port", 1))):
            self.check(Traveller(E, "e", place), place, 0, E, [])

    def test_errors_of_the_class(self):
        for value in ODD_VALUES:
            with self.assertRaises(BadAtlas):
                Traveller(value, "f", None)
            if value != "e":
                with self.assertRaises(UnknownMap):
                    Traveller(E, value, None)
        for value in BAD_PLACES:
            with self.assertRaises(BadPlace):
                Traveller(E, "e", value)

    def test_moves(self):
        t = Traveller(E, "e", P0)
        deep = ((0,) * 200, ("node", 0))
        self.assertIsNone(t.move(deep))
        self.check(t, deep, 401, E, [("move", deep)])
        self.assertIsNone(t.move(P1))
        self.check(t, P1, 401 + 205, E, [("move", deep), ("move", P1)])

    def test_move_to_the_current_place(self):
        t = Traveller(E, "e", INNER)
        for many in range(1, 4):
            self.assertIsNone(t.move(INNER))
            self.check(t, INNER, 0, E, [("move", INNER)] * many)
        t.undo()
        self.check(t, INNER, 0, E, [("move", INNER)] * 2)

    def test_errors_of_move(self):
        t = Traveller(E, "e", P1)
        for value in BAD_PLACES:
            self.check_error(t, BadPlace, t.move, value)
        for value in (P0, INNER, ((0,) * 200, ("node", 0))):
            self.check_error(t, NoRoute, t.move, value)

    def test_steps(self):
        t = Traveller(UP, "u", ((0,), ("port", 0)))
        steps = steps_from(UP, "u", t.here())
        self.assertEqual(len(steps), 3)
        for n, (place, cost) in enumerate(steps):
            t = Traveller(UP, "u", ((0,), ("port", 0)))
            self.assertIsNone(t.step(n))
            self.check(t, place, cost, UP, [("step", n)])

    def test_errors_of_step(self):
        t = Traveller(E, "e", ((0,), ("node", 0)))
        for n in [value for value in ODD_VALUES] + [2, 3, 10**399, -1, True, False]:
            self.check_error(t, BadStep, t.step, n)
        t = Traveller(E, "e", P1)
        for n in (0, 1, -1, False):
            self.check_error(t, BadStep, t.step, n)
        # One of the steps leads to an address of 201 indexes.
        t = Traveller(E, "e", ((0,) * 200, ("node", 0)))
        steps = steps_from(E, "e", t.here())
        self.assertEqual([len(place[0]) for place, _ in steps], [200, 201])
        self.check_error(t, BadAddress, t.step, 1)
        self.check_error(t, BadStep, t.step, 2)
        t.step(0)
        self.check(t, ((0,) * 200, ("port", 1)), 5, E, [("step", 0)])

    def test_changes(self):
        t = Traveller(E, "e", P0)
        edge = ("edge", "e", ("node", 0), ("port", 1), 4)
        self.assertIsNone(t.change(edge))
        first = with_edge(E, "e", ("node", 0), ("port", 1), 4)
        self.check(t, P0, 0, first, [("change", edge)])
        cut = ("cut", "e", ("slot", 0, 1), ("port", 1))
        self.assertIsNone(t.change(cut))
        second = without_edge(first, "e", ("slot", 0, 1), ("port", 1))
        self.check(t, P0, 0, second, [("change", edge), ("change", cut)])
        t.move(P1)
        self.check(t, P1, 5, second, [("change", edge), ("change", cut), ("move", P1)])
        slot = ("slot", "a", 0, "a")
        t = Traveller(B, "a", P0)
        t.move(P1)
        self.assertIsNone(t.change(slot))
        self.check(t, P1, 5, with_slot(B, "a", 0, "a"), [("move", P1), ("change", slot)])

    def test_what_is_spent_stays_when_the_atlas_changes(self):
        t = Traveller(E, "e", P0)
        t.move(INNER)
        t.step(0)
        before = t.spent()
        for cost in (1, 7, 1000000):
            t.change(("edge", "e", ("port", 0), ("node", 0), cost))
            t.change(("edge", "e", ("node", 0), ("port", 1), cost))
            self.assertEqual(t.spent(), before)
        t.undo()
        t.redo()
        self.assertEqual(t.spent(), before)

    def test_errors_of_change(self):
        t = Traveller(E, "e", INNER)
        for value in BAD_EDITS + ODD_VALUES:
            self.check_error(t, BadEdit, t.change, value)
        for edit, word in (
            (("edge", "f", None, None, 0), UnknownMap),
            (("edge", "e", None, None, 0), BadPoint),
            (("edge", "e", ("port", 0), ("port", 0), 0), BadPoint),
            (("edge", "e", ("port", 0), ("port", 1), 0), BadCost),
            (("cut", "f", None, None), UnknownMap),
            (("cut", "e", ("port", 2), None), BadPoint),
            (("cut", "e", ("port", 0), ("port", 1)), NoEdge),
            (("slot", "f", 0, "e"), UnknownMap),
            (("slot", "e", 1, "f"), UnknownMap),
            (("slot", "e", 1, "e"), BadSlot),
            (("slot", "e", False, "e"), BadSlot),
        ):
            self.check_error(t, word, t.change, edit)
        t = Traveller(B + (("c", 1, (), (), ()),), "a", P0)
        error = self.check_error(t, BadAtlas, t.change, ("slot", "a", 0, "c"))
        self.assertEqual(error.reason, ("edge", 0, 2))
        t = Traveller(FULL, FULL[0][0], P0)
        chart = FULL[3]
        pairs = [edge[:2] for edge in chart[4]]
        points = points_of(FULL, chart)
        source, target = [(a, b) for a in points for b in points if a != b and (a, b) not in pairs][0]
        error = self.check_error(t, BadAtlas, t.change, ("edge", chart[0], source, target, 1))
        self.assertEqual(error.reason, ("edges", 3))

    def test_a_change_after_which_the_place_would_be_none(self):
        atlas = (("a", 1, (), ("b",), ()), ("b", 1, ("x",), ("c",), ()), ("c", 1, (), (), ()))
        for place, fits in (
            (P0, True),
            (((0,), ("port", 0)), True),
            (((0,), ("node", 0)), False),
            (((0, 0), ("port", 0)), False),
        ):
            t = Traveller(atlas, "a", place)
            edit = ("slot", "a", 0, "c")
            if fits:
                t.change(edit)
                self.check(t, place, 0, with_slot(atlas, "a", 0, "c"), [("change", edit)])
            else:
                self.check_error(t, BadPlace, t.change, edit)

    def test_undo_and_redo(self):
        t = Traveller(E, "e", P0)
        self.check_error(t, NothingToDo, t.undo)
        self.check_error(t, NothingToDo, t.redo)
        states = [repr(state(t))]
        for action in (
            lambda: t.move(INNER),
            lambda: t.step(1),
            lambda: t.change(("edge", "e", ("node", 0), ("port", 1), 4)),
            lambda: t.move(P1),
        ):
            action()
            states.append(repr(state(t)))
        for k in (3, 2, 1, 0):
            self.assertIsNone(t.undo())
            self.assertEqual(repr(state(t)), states[k])
        self.check_error(t, NothingToDo, t.undo)
        for k in (1, 2, 3, 4):
            self.assertIsNone(t.redo())
            self.assertEqual(repr(state(t)), states[k])
        self.check_error(t, NothingToDo, t.redo)

    def test_another_action_after_undo(self):
        for action in (
            lambda t: t.move(P0),
            lambda t: t.step(0),
            lambda t: t.change(("cut", "e", ("port", 0), ("node", 0))),
        ):
            t = Traveller(E, "e", P0)
            t.move(INNER)
            t.move(P1)
            t.undo()
            t.undo()
            action(t)
            self.check_error(t, NothingToDo, t.redo)
            t.undo()
            t.redo()
            self.assertEqual(len(t.history()), 1)

    def test_an_action_that_raises_after_undo(self):
        t = Traveller(E, "e", INNER)
        t.move(P1)
        t.undo()
        for word, function, value in (
            (BadPlace, t.move, None),
            (NoRoute, t.move, P0),
            (BadStep, t.step, 9),
            (BadEdit, t.change, None),
            (NoEdge, t.change, ("cut", "e", ("port", 1), ("port", 0))),
        ):
            self.check_error(t, word, function, value)
        t.redo()
        self.check(t, P1, 6, E, [("move", P1)])

    def test_history_belongs_to_the_caller(self):
        t = Traveller(E, "e", P0)
        t.move(INNER)
        found = t.history()
        found.append(("move", P1))
        found[0] = None
        self.check(t, INNER, 3, E, [("move", INNER)])
        t.history().clear()
        t.undo()
        self.check(t, P0, 0, E, [])

    def test_clone(self):
        t = Traveller(E, "e", P0)
        t.move(INNER)
        t.change(("edge", "e", ("node", 0), ("port", 1), 4))
        t.step(0)
        t.undo()
        twin = t.clone()
        self.assertIs(type(twin), Traveller)
        self.assertEqual(repr(state(twin)), repr(state(t)))
        before = repr(state(t))
        twin.redo()
        self.assertEqual(len(twin.history()), 3)
        self.assertEqual(repr(state(t)), before)
        t.undo()
        self.assertEqual(len(twin.history()), 3)
        t.redo()
        t.redo()
        self.assertEqual(repr(state(t)), repr(state(twin)))
        for traveller in (t, twin):
            for _ in range(3):
                traveller.undo()
            self.check(traveller, P0, 0, E, [])
        twin.move(P1)
        self.check_error(twin, NothingToDo, twin.redo)
        t.redo()
        self.check(t, INNER, 3, E, [("move", INNER)])
        self.check(Traveller(E, "e", P0).clone(), P0, 0, E, [])

    def test_many_actions(self):
        """Long rows of actions, compared with states that are kept one by one."""
        rng = Random(1201)
        counts = {}
        for _ in range(40):
            atlas = rng.choice([linked_atlas, drawn_atlas])(rng)
            root = rng.choice(atlas)[0]
            place = random_place(rng, atlas, root, 2)
            pairs = [(Traveller(atlas, root, place), [(place, 0, atlas, [])], [])]
            for _ in range(60):
                k = rng.randrange(len(pairs))
                traveller, states, later = pairs[k]
                word = self.act(rng, root, traveller, states, later)
                counts[word] = counts.get(word, 0) + 1
                self.assertEqual(state(traveller), states[-1])
                if rng.random() < 0.05:
                    pairs.append((traveller.clone(), list(states), list(later)))
                for other, other_states, _ in pairs:
                    self.assertEqual(state(other), other_states[-1])
        self.assertGreater(min([counts[word] for word in ("move", "step", "change", "undo", "redo", "error")]), 30)

    def act(self, rng, root, traveller, states, later):
        """Let the traveller act in some way; change the lists of states before and after it in the same way."""
        place, total, atlas, history = states[-1]
        word = rng.choice(["move", "move", "step", "change", "change", "undo", "undo", "redo"])
        if word in ("undo", "redo"):
            source, target = (states, later) if word == "undo" else (later, states)
            if len(states) == 1 and word == "undo" or not later and word == "redo":
                self.check_error(traveller, NothingToDo, getattr(traveller, word))
                return "nothing"
            self.assertIsNone(getattr(traveller, word)())
            target.append(source.pop())
            return word
        value, found = self.drawn_action(rng, root, states[-1], word)
        if found is None:
            with self.assertRaises(SlotmapsError):
                getattr(traveller, word)(value)
            return "error"
        self.assertIsNone(getattr(traveller, word)(value))
        states.append((found[0], total + found[1], found[2], history + [(word, value)]))
        later.clear()
        return word

    def drawn_action(self, rng, root, before, word):
        """Return an argument, and (place, cost, atlas) behind the action, or None if it raises an error."""
        place, _, atlas, _ = before
        if word == "move":
            target = random_place(rng, atlas, root, rng.randint(0, 3))
            cost = cost_between(atlas, root, place, target)
            return target, None if cost is None else (target, cost, atlas)
        if word == "step":
            n = rng.randint(0, 3)
            steps = steps_from(atlas, root, place)
            return n, (steps[n] + (atlas,) if n < len(steps) else None)
        chart = rng.choice(atlas)
        points = points_of(atlas, chart)
        source, target = rng.choice(points), rng.choice(points)
        kind = rng.choice(["edge", "cut", "slot"])
        try:
            if kind == "edge":
                value = (kind, chart[0], source, target, rng.randint(0, 9))
                changed = with_edge(atlas, *value[1:])
            elif kind == "cut":
                source, target = rng.choice(chart[4] or ((source, target),))[:2]
                value = (kind, chart[0], source, target)
                changed = without_edge(atlas, *value[1:])
            else:
                value = (kind, chart[0], rng.randint(0, 1), rng.choice(atlas)[0])
                changed = with_slot(atlas, *value[1:])
        except SlotmapsError:
            return value, None
        return value, ((place, 0, changed) if is_place(changed, root, place) else None)

    def test_long_history(self):
        t = Traveller(LOOP, "o", P0)
        deep = ((0,) * 3, ("node", 0))
        for k in range(300):
            t.move(deep if k % 2 == 0 else P0)
        total = t.spent()
        self.assertEqual((t.here(), len(t.history())), (P0, 300))
        for _ in range(300):
            t.undo()
        self.check(t, P0, 0, LOOP, [])
        for _ in range(300):
            t.redo()
        self.assertEqual((t.here(), t.spent(), len(t.history())), (P0, total, 300))

    def test_values_of_any_kind(self):
        rng = Random(1202)
        t = Traveller(E, "e", P0)
        for _ in range(500):
            value = random_value(rng)
            self.check_error(t, BadPlace, t.move, value)
            self.check_error(t, BadEdit, t.change, value)
            if value != 0 or type(value) is bool:
                self.check_error(t, BadStep, t.step, value)


if __name__ == "__main__":
    unittest.main()
