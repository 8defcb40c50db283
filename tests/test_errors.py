"""The classes of [4] and of the interface."""

import unittest

from slotmaps import errors

BELOW = [
    "BadAtlas",
    "UnknownMap",
    "BadAddress",
    "BadPlace",
    "BadPoint",
    "BadPort",
    "BadRoute",
    "BadTrip",
    "BadStep",
    "BadCost",
    "BadDepth",
    "BadLabel",
    "BadModulus",
    "BadSlot",
    "BadEdit",
    "BadText",
    "BadCommand",
    "NoEdge",
    "NoRoute",
    "NotInside",
    "NotJoined",
    "TooLarge",
]
FIELDS = {"BadAtlas": "reason", "BadRoute": "position", "BadTrip": "position", "BadText": "line"}


def made(name):
    """Return a new error of the class."""
    word = getattr(errors, name)
    return word(3) if name in FIELDS else word()


class ErrorTest(unittest.TestCase):
    def test_base_of_all(self):
        self.assertEqual(errors.SlotmapsError.__bases__, (ValueError,))

    def test_every_class_is_directly_below_the_base(self):
        for name in BELOW:
            with self.subTest(name):
                self.assertEqual(getattr(errors, name).__bases__, (errors.SlotmapsError,))

    def test_no_class_is_below_another(self):
        for first in BELOW:
            for second in BELOW:
                if first != second:
                    self.assertFalse(issubclass(getattr(errors, first), getattr(errors, second)))

    def test_nothing_to_do_and_not_ready_stand_apart(self):
        self.assertEqual(errors.NothingToDo.__bases__, (LookupError,))
        self.assertEqual(errors.NotReady.__bases__, (RuntimeError,))
        self.assertFalse(issubclass(errors.NothingToDo, errors.SlotmapsError))
        self.assertFalse(issubclass(errors.NotReady, errors.SlotmapsError))

    def test_each_class_is_defined_in_its_module_and_is_its_own(self):
        names = BELOW + ["SlotmapsError", "NothingToDo", "NotReady"]
        found = [getattr(errors, name) for name in names]
        self.assertEqual(len(set(found)), len(names))
        for name, word in zip(names, found):
            self.assertEqual((word.__module__, word.__name__), ("slotmaps.errors", name))

    def test_fields_are_set_from_the_arguments_by_position(self):
        for name, field in FIELDS.items():
            for value in (0, 7, ("slot", 0, 1), None):
                with self.subTest(name, value=value):
                    self.assertEqual(getattr(getattr(errors, name)(value), field), value)

    def test_fields_are_needed(self):
        for name in FIELDS:
            with self.subTest(name), self.assertRaises(TypeError):
                getattr(errors, name)()

    def test_the_others_have_no_field(self):
        for name in BELOW + ["SlotmapsError", "NothingToDo", "NotReady"]:
            fields = set(vars(made(name)))
            self.assertEqual(fields, {FIELDS[name]} if name in FIELDS else set())

    def test_each_is_raised_and_caught_as_itself(self):
        for name in BELOW + ["NothingToDo", "NotReady"]:
            error = made(name)
            with self.assertRaises(getattr(errors, name)) as caught:
                raise error
            self.assertIs(caught.exception, error)


if __name__ == "__main__":
    unittest.main()
