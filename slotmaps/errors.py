"""The exceptions of the package."""


class SlotmapsError(ValueError):
    """Something that was passed to the package is not as it must be."""


class BadAtlas(SlotmapsError):
    """The value is not an atlas; the reason is that of atlas_error."""

    def __init__(self, reason):
        self.reason = reason


class UnknownMap(SlotmapsError):
    """The value is not the name of a map of the atlas."""


class BadAddress(SlotmapsError):
    """There is no copy at the address, or it is not an address."""


class BadPlace(SlotmapsError):
    """The value is not a place."""


class BadPoint(SlotmapsError):
    """The value is not a point of the map."""


class BadPort(SlotmapsError):
    """The value is not the index of a port of the map."""


class BadRoute(SlotmapsError):
    """The value is not a route; the position is that of its first bad part."""

    def __init__(self, position):
        self.position = position


class BadTrip(SlotmapsError):
    """The value is not a trip; the position is that of its first bad leg."""

    def __init__(self, position):
        self.position = position


class BadStep(SlotmapsError):
    """There is no step of this number."""


class BadCost(SlotmapsError):
    """The value is not a cost."""


class BadDepth(SlotmapsError):
    """The value is not a depth."""


class BadLabel(SlotmapsError):
    """The value is not a label."""


class BadModulus(SlotmapsError):
    """The value is not a modulus."""


class BadSlot(SlotmapsError):
    """The map has no such slot."""


class BadEdit(SlotmapsError):
    """The value is not a change of an atlas."""


class BadText(SlotmapsError):
    """The value is not a text of the text format; the line is the first bad one."""

    def __init__(self, line):
        self.line = line


class BadCommand(SlotmapsError):
    """The line is not a command."""


class NoEdge(SlotmapsError):
    """The map has no such edge."""


class NoRoute(SlotmapsError):
    """There is no path between the places."""


class NotInside(SlotmapsError):
    """A place lies deeper than the copy of the route."""


class NotJoined(SlotmapsError):
    """The second route does not start where the first one ends."""


class TooLarge(SlotmapsError):
    """The answer is beyond a limit."""


class NothingToDo(LookupError):
    """There is no action to undo or to redo."""


class NotReady(RuntimeError):
    """The command needs an atlas or a traveller that has not been set."""
