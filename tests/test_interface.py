"""The interface, and what [3] and [4] say of every function and class of it."""

import unittest
from importlib import import_module
from inspect import signature
from pathlib import Path

from slotmaps.atlases import atlas_error
from slotmaps.certificates import certificate
from slotmaps.errors import BadAtlas, UnknownMap
from slotmaps.shell import Shell
from slotmaps.travellers import Traveller
from tests.samples import FULL, ODD_VALUES, B, E, K
from tests.test_order import ATLASES, ROOTS

INTERFACE = {
    "atlases": ["atlas_error", "is_atlas"],
    "places": ["map_at", "is_place", "steps_from", "within"],
    "tables": ["port_tables", "limited_tables", "depth_profile", "is_supporting"],
    "measures": ["measure"],
    "routes": ["best_route", "count_best"],
    "reading": ["step_at", "point_at", "cost_at"],
    "cutting": ["slice_route", "join_routes"],
    "between": ["cost_between", "outer_table"],
    "trips": ["measure_trip", "best_trip"],
    "certificates": ["certificate", "bars"],
    "limits": ["cost_to_depth", "levels_between", "cost_avoiding"],
    "labels": ["nearest"],
    "counting": ["count_at", "count_mod"],
    "meetings": ["meeting"],
    "replacing": ["same_outside", "summary", "summarized", "with_slot", "with_edge", "without_edge"],
    "texts": ["format_atlas", "format_place", "parse_atlas", "parse_place"],
    "travellers": ["Traveller"],
    "shell": ["Shell"],
}
METHODS = {
    Traveller: ["move", "step", "change", "undo", "redo", "here", "spent", "current_atlas", "history", "clone"],
    Shell: ["run"],
}
P0, P1, INNER = ((), ("port", 0)), ((), ("port", 1)), ((0,), ("node", 0))
# A call of each function with the parameter atlas, by its arguments behind the atlas.
CALLS = {
    "map_at": ("e", (0,)),
    "is_place": ("e", P0),
    "steps_from": ("e", INNER),
    "within": ("e", P0, 9),
    "port_tables": (),
    "limited_tables": (3,),
    "depth_profile": ("e", 0, 1),
    "is_supporting": ({"e": ((0, 3), (None, 0))},),
    "measure": (K,),
    "best_route": ("e", ("port", 0), ("port", 1)),
    "count_best": ("e", ("port", 0), ("port", 1)),
    "step_at": (K, 2),
    "point_at": (K, 2),
    "cost_at": (K, 3),
    "slice_route": (K, 1, 4),
    "join_routes": (K, [("e", ("port", 1), ("port", 1), ())]),
    "cost_between": ("e", P0, P1),
    "outer_table": ("e", (0,)),
    "measure_trip": ("e", P0, [((), K)]),
    "best_trip": ("e", INNER, P1),
    "certificate": ("e", P0, INNER),
    "bars": ("e", P0, P1, 6, certificate(E, "e", P0, P1)),
    "cost_to_depth": ("e", P0, P1, 2),
    "levels_between": ("e", P0, INNER),
    "cost_avoiding": ("e", P0, P1, [(0,)]),
    "nearest": ("e", P0, "x"),
    "count_at": ("e", P0, "x", 9),
    "count_mod": ("e", P0, None, 9, 7),
    "meeting": ("e", P0, INNER),
    "same_outside": ("e", "e"),
    "summary": ("e",),
    "summarized": (),
    "with_slot": ("e", 0, "e"),
    "with_edge": ("e", ("node", 0), ("port", 1), 4),
    "without_edge": ("e", ("node", 0), ("port", 1)),
    "format_atlas": (),
    "Traveller": ("e", P0),
}


def named(name):
    """Return the function or class of the interface with this name."""
    word = [word for word, names in INTERFACE.items() if name in names][0]
    return getattr(import_module("slotmaps." + word), name)


def second_parameter(name):
    """Return the name of the parameter behind the atlas, or None."""
    parameters = [word for word in signature(named(name)).parameters if word != "self"]
    return parameters[1] if len(parameters) > 1 else None


def spoil(value):
    """Change all lists and dicts in a value."""
    if isinstance(value, (list, tuple)):
        for item in value:
            spoil(item)
    if isinstance(value, dict):
        for item in value.values():
            spoil(item)
        value.clear()
        value["spoiled"] = [None]
    if isinstance(value, list):
        value.append("spoiled")
        value.reverse()


def copied(value):
    """Return a value with new lists and dicts in place of its own."""
    if isinstance(value, (list, tuple)):
        return type(value)([copied(item) for item in value])
    if isinstance(value, dict):
        return {key: copied(item) for key, item in value.items()}
    return value


class InterfaceTest(unittest.TestCase):
    def test_each_name_is_defined_in_its_module(self):
        for word, names in INTERFACE.items():
            for name in names:
                found = named(name)
                self.assertEqual((found.__module__, found.__name__), ("slotmaps." + word, name))

    def test_each_method_is_defined_in_its_class(self):
        for word, names in METHODS.items():
            for name in names:
                self.assertIn(name, vars(word))

    def test_package_holds_files_of_code_alone(self):
        folder = Path(__file__).resolve().parent.parent / "slotmaps"
        found = [path for path in folder.iterdir() if path.name != "__pycache__"]
        self.assertEqual([path for path in found if path.suffix != ".py"], [])

    def test_every_function_with_an_atlas_is_called_here(self):
        names = [name for words in INTERFACE.values() for name in words]
        with_atlas = [name for name in names if "atlas" in signature(named(name)).parameters]
        self.assertEqual(sorted(CALLS), sorted(with_atlas))
        for name in with_atlas:
            parameters = [word for word in signature(named(name)).parameters if word != "self"]
            self.assertEqual((parameters[0], len(parameters)), ("atlas", 1 + len(CALLS[name])))

    def test_calls(self):
        for name, arguments in CALLS.items():
            named(name)(E, *arguments)

    def test_no_atlas_comes_first(self):
        for name, arguments in CALLS.items():
            function = named(name)
            for value in ODD_VALUES + [atlas for atlas, reason in ATLASES if reason is not None]:
                for others in (arguments, (None,) * len(arguments), ("f",) * len(arguments)):
                    with self.assertRaises(BadAtlas) as caught:
                        function(value, *others)
                    self.assertIs(type(caught.exception), BadAtlas)
                    self.assertEqual(repr(caught.exception.reason), repr(atlas_error(value)))

    def test_an_unknown_map_comes_second(self):
        for name, arguments in CALLS.items():
            if second_parameter(name) not in ("root", "name"):
                continue
            for value in [root for root, known in ROOTS if not known] + [odd for odd in ODD_VALUES if odd != "e"]:
                for others in (arguments[1:], (None,) * (len(arguments) - 1)):
                    with self.assertRaises(UnknownMap) as caught:
                        named(name)(E, value, *others)
                    self.assertIs(type(caught.exception), UnknownMap)

    def test_arguments_stay_and_results_belong_to_the_caller(self):
        for name, arguments in CALLS.items():
            function = named(name)
            if name == "Traveller":
                continue
            given = copied(arguments)
            found = function(E, *given)
            self.assertEqual(repr((E, given)), repr((E, arguments)))
            expected = repr(found)
            spoil(found)
            self.assertEqual(repr((E, given)), repr((E, arguments)), name)
            again = function(E, *given)
            self.assertEqual(repr(again), expected, name)
            # What was passed is changed behind the call: the result stays.
            spoil(given)
            self.assertEqual(repr(again), expected, name)
            self.assertEqual(repr(function(E, *arguments)), expected, name)

    def test_every_map_of_an_atlas_may_be_named(self):
        point = ("port", 0)
        for name, arguments in (
            ("is_place", (P0,)),
            ("steps_from", (P0,)),
            ("best_route", (point, point)),
            ("count_best", (point, point)),
            ("cost_between", (P0, P0)),
            ("certificate", (P0, P0)),
            ("levels_between", (P0, P0)),
            ("nearest", (P0, "x")),
            ("count_at", (P0, "x", 2)),
            ("meeting", (P0, P0)),
            ("Traveller", (P0,)),
        ):
            for atlas in (B, FULL):
                for chart in atlas:
                    named(name)(atlas, chart[0], *arguments)


if __name__ == "__main__":
    unittest.main()
