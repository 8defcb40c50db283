"""The command interpreter."""

from slotmaps.atlases import checked_maps
from slotmaps.between import cost_between
from slotmaps.checks import is_name
from slotmaps.counting import count_at
from slotmaps.errors import BadCommand, NotReady
from slotmaps.insides import Insides
from slotmaps.labels import nearest
from slotmaps.tables import depth_profile
from slotmaps.texts import format_atlas, is_number, parse_atlas, parsed_place, parsed_point, place_text
from slotmaps.travellers import Traveller

# The commands but load, with the forms of the words behind the first one.
ON_ATLAS = {
    "show": (),
    "table": ("name",),
    "profile": ("name", "number", "number"),
    "cost": ("name", "place", "place"),
    "enter": ("name", "place"),
}
ACTIONS = {
    "move": ("place",),
    "step": ("number",),
    "edge": ("name", "point", "point", "number"),
    "cut": ("name", "point", "point"),
    "slot": ("name", "number", "name"),
    "undo": (),
    "redo": (),
}
QUESTIONS = {"here": (), "spent": (), "nearest": ("name",), "count": ("name", "number")}


class Shell:
    """An atlas and a traveller, at first neither, and commands for them."""

    def __init__(self):
        self.loaded = None
        self.traveller = None

    def run(self, line):
        """Execute one command and return its output."""
        if not isinstance(line, str):
            raise BadCommand()
        if line.startswith("load\n"):
            return self.load(line[len("load\n") :])
        word, *words = line.split(" ")
        values = parsed_words(word, words)
        if values is None:
            raise BadCommand()
        if self.loaded is None or (self.traveller is None and word not in ON_ATLAS):
            raise NotReady()
        if word in ON_ATLAS:
            return self.run_on_atlas(word, values)
        if word in QUESTIONS:
            return self.tell(word, values)
        self.act(word, values)
        return "ok"

    def load(self, text):
        """Set the atlas that is written so."""
        self.loaded = parse_atlas(text)
        self.traveller = None
        return "ok"

    def current(self):
        """Return the current atlas."""
        return self.loaded if self.traveller is None else self.traveller.current_atlas()

    def run_on_atlas(self, word, values):
        """Execute a command that needs no traveller and return its output."""
        atlas = self.current()
        if word == "show":
            return format_atlas(atlas)
        if word == "table":
            return table_text(atlas, values[0])
        if word == "profile":
            name, i, j = values
            return profile_text(depth_profile(atlas, name, i, j))
        if word == "cost":
            name, first, second = values
            return cost_text(cost_between(atlas, name, first, second))
        name, place = values
        self.traveller = Traveller(atlas, name, place)
        return "ok"

    def act(self, word, values):
        """Let the traveller perform an action."""
        if word == "move":
            self.traveller.move(values[0])
        elif word == "step":
            self.traveller.step(values[0])
        elif word == "undo":
            self.traveller.undo()
        elif word == "redo":
            self.traveller.redo()
        else:
            self.traveller.change((word, *values))

    def tell(self, word, values):
        """Return the answer to a question about the traveller."""
        traveller = self.traveller
        place = traveller.here()
        if word == "here":
            return place_text(place)
        if word == "spent":
            return str(traveller.spent())
        if word == "nearest":
            return found_text(nearest(traveller.current_atlas(), traveller.root, place, values[0]))
        label, depth = values
        return str(count_at(traveller.current_atlas(), traveller.root, place, label, depth))


def parsed_words(word, words):
    """Return the values of the words of a command behind its first one, or None if it is not such a command."""
    forms = ON_ATLAS.get(word, ACTIONS.get(word, QUESTIONS.get(word)))
    if forms is None or len(words) != len(forms):
        return None
    values = [parsed_word(form, text) for form, text in zip(forms, words)]
    return None if None in values else values


def parsed_word(form, text):
    """Return the value of a word of some form, or None if it has another form."""
    if form == "name":
        return text if is_name(text) else None
    if form == "number":
        return int(text) if is_number(text) else None
    if form == "point":
        return parsed_point(text)
    return parsed_place(text)


def table_text(atlas, name):
    """Return the text of the port table of a map."""
    maps = checked_maps(atlas, name)
    return "; ".join([" ".join([cost_text(cost) for cost in row]) for row in Insides(maps).tables[name]])


def profile_text(profile):
    """Return the text of what depth_profile returns."""
    return "; ".join([f"{depth} {cost}" for depth, cost in profile]) if profile else "-"


def cost_text(cost):
    """Return the text of a cost, which may be None."""
    return "-" if cost is None else str(cost)


def found_text(found):
    """Return the text of (cost, place), or of None."""
    return "-" if found is None else f"{found[0]} {place_text(found[1])}"
