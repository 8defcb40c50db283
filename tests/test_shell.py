"""The command interpreter: [46] to [48]."""

import unittest
from random import Random

from slotmaps import errors
from slotmaps.between import cost_between
from slotmaps.counting import count_at
from slotmaps.errors import (
    BadAddress,
    BadAtlas,
    BadCommand,
    BadCost,
    BadDepth,
    BadPlace,
    BadPoint,
    BadPort,
    BadSlot,
    BadStep,
    BadText,
    NoEdge,
    NoRoute,
    NothingToDo,
    NotReady,
    UnknownMap,
)
from slotmaps.labels import nearest
from slotmaps.replacing import with_edge
from slotmaps.shell import Shell
from slotmaps.tables import depth_profile, port_tables
from slotmaps.texts import format_atlas, format_place, parse_atlas, parse_place
from slotmaps.travellers import Traveller
from tests.samples import FULL, ODD_VALUES, UP, B, E, linked_atlas, points_of, random_place

LOAD_E, LOAD_B = "load\n" + format_atlas(E), "load\n" + format_atlas(B)
# Well-formed commands; those behind the first five need a traveller.
ON_ATLAS = ["show", "table e", "profile e 0 1", "cost e /p0 /p1", "enter e /p0"]
ON_TRAVELLER = [
    "move 0/n0",
    "step 0",
    "edge e n0 p1 4",
    "cut e n0 p1",
    "slot e 0 e",
    "undo",
    "redo",
    "here",
    "spent",
    "nearest x",
    "count x 3",
]
# Words that are not of a form, which is told by a word of a command.
BAD_NAMES = ["", "E", "abcdefghi", "a1", "1", "/p0", "n0.", "e\n", "e\t", "e-"]
BAD_NUMBERS = ["", "-1", "+1", "01", "00", "a", "1.0", "1" * 61, "0\n", "1_0", "None"]
BAD_POINTS = ["", "n", "p", "s0", "s0.", "s0.0.0", "n0.0", "0", "x0", "N0", "n-1", "n01", "p0\n", "/p0", "n" + "1" * 61]
BAD_PLACES = ["", "p0", "/", "/s0.0", "0p0", "0./p0", "00/p0", "0//p0", "/p00", "/p0\n", ".".join("0" * 201) + "/p0"]
FORMS = {
    "table": [BAD_NAMES],
    "profile": [BAD_NAMES, BAD_NUMBERS, BAD_NUMBERS],
    "cost": [BAD_NAMES, BAD_PLACES, BAD_PLACES],
    "enter": [BAD_NAMES, BAD_PLACES],
    "move": [BAD_PLACES],
    "step": [BAD_NUMBERS],
    "edge": [BAD_NAMES, BAD_POINTS, BAD_POINTS, BAD_NUMBERS],
    "cut": [BAD_NAMES, BAD_POINTS, BAD_POINTS],
    "slot": [BAD_NAMES, BAD_NUMBERS, BAD_NAMES],
    "nearest": [BAD_NAMES],
    "count": [BAD_NAMES, BAD_NUMBERS],
}


def ready(*lines):
    """Return a shell that has been told these lines."""
    s = Shell()
    for line in lines:
        s.run(line)
    return s


def told(s):
    """Return what a shell tells of its state, by commands that change nothing."""
    found = []
    for line in ("show", "here", "spent"):
        try:
            found.append(s.run(line))
        except NotReady:
            found.append(None)
    return found


class ShellTest(unittest.TestCase):
    def check_error(self, s, line, word):
        """The line raises just this class and changes nothing."""
        before = told(s)
        with self.assertRaises(word) as caught:
            s.run(line)
        self.assertIs(type(caught.exception), word)
        self.assertEqual(told(s), before)
        return caught.exception

    def states(self):
        """Return shells without an atlas, with an atlas, and with a traveller."""
        return [Shell(), ready(LOAD_E), ready(LOAD_E, "enter e /p0")]

    def test_example(self):
        s = Shell()
        self.assertEqual(s.run("load\n" + format_atlas(E)), "ok")
        lines = ["table e", "cost e 0.0/n0 /p1", "enter e /p0", "nearest x"]
        self.assertEqual([s.run(line) for line in lines], ["0 6; - 0", "7", "ok", "1 /n0"])

    def test_not_ready(self):
        empty, loaded, entered = self.states()
        for line in ON_ATLAS + ON_TRAVELLER:
            self.check_error(empty, line, NotReady)
        for line in ON_TRAVELLER:
            self.check_error(loaded, line, NotReady)
        for line in ON_ATLAS[:-1]:
            self.assertEqual(loaded.run(line), entered.run(line))
        self.check_error(entered, "undo", NothingToDo)
        for line in ON_TRAVELLER:
            if line != "undo":
                self.assertIsInstance(ready(LOAD_E, "enter e /p0", "move /n0", "undo").run(line), str)

    def test_malformed_comes_before_not_ready(self):
        for s in self.states():
            for line in ON_ATLAS + ON_TRAVELLER:
                words = line.split(" ")
                for other in (
                    line + " ", " " + line, line + "\n", "\n" + line, line + " 0", line + " e", line + " /p0",
                    line.upper(), line[1:], "x" + line, words[0] + "x", " ".join(words[:-1]), line.replace(" ", "\t"),
                    line.replace(" ", "  ", 1), line + "\n" + line, line + ";",
                ):
                    if other != line:
                        self.check_error(s, other, BadCommand)

    def test_each_word(self):
        for s in self.states():
            for line in ON_ATLAS + ON_TRAVELLER:
                word, *words = line.split(" ")
                for at, broken in enumerate(FORMS.get(word, [])):
                    for other in broken:
                        changed = " ".join([word] + words[:at] + [other] + words[at + 1 :])
                        self.check_error(s, changed, BadCommand)

    def test_no_commands(self):
        for s in self.states():
            for value in ODD_VALUES + [["show"], ("show",), {"show": 1}, 0, [LOAD_E]]:
                self.check_error(s, value, BadCommand)
            for line in (
                "", " ", "\n", "load", "load ", "load\tx", " load\n" + LOAD_E[5:], "load \n" + LOAD_E[5:], "Load\nmap a 1",
                "load map a 1", "load\\nmap a 1", "x", "help", "quit", "None", "show show", "enter", "loadx\nmap a 1",
                "show\nload\nmap a 1",
            ):
                self.check_error(s, line, BadCommand)

    def test_load(self):
        for atlas in (E, B, FULL, UP):
            for s in self.states():
                self.assertEqual(s.run("load\n" + format_atlas(atlas)), "ok")
                self.assertEqual(told(s), [format_atlas(atlas), None, None])

    def test_load_no_atlas(self):
        for s in self.states():
            for text, line in (
                ("", 0), ("\n", 0), ("map", 0), ("load\nmap a 1", 0), ("map a 1\n", 1), ("map a 1\n\nmap b 1", 1),
                ("map a 1\nnode x\nnod x", 2), ("map a 1\nedge p0 p0 1", 2), ("map a 9", 1), ("node x", 0), (" map a 1", 0),
            ):
                self.assertEqual(self.check_error(s, "load\n" + text, BadText).line, line)

    def test_a_loaded_atlas_removes_the_traveller(self):
        s = ready(LOAD_E, "enter e /p0", "move 0/n0", LOAD_E)
        for line in ON_TRAVELLER:
            self.check_error(s, line, NotReady)
        self.assertEqual(s.run("enter e /p1"), "ok")
        self.assertEqual(told(s), [format_atlas(E), "/p1", "0"])
        self.check_error(s, "undo", NothingToDo)

    def test_show(self):
        for atlas in (E, B, FULL):
            self.assertEqual(ready("load\n" + format_atlas(atlas)).run("show"), format_atlas(atlas))

    def test_table(self):
        s = ready(LOAD_B)
        self.assertEqual([s.run("table a"), s.run("table b")], ["0 5; - 0", "0 3; - 0"])
        self.assertEqual(ready("load\nmap a 1").run("table a"), "0")
        self.assertEqual(ready("load\nmap a 3").run("table a"), "0 - -; - 0 -; - - 0")
        self.check_error(s, "table c", UnknownMap)
        self.check_error(s, "table abcdefgh", UnknownMap)

    def test_profile(self):
        s = ready(LOAD_B)
        self.assertEqual(s.run("profile a 0 1"), "0 9; 1 5")
        self.assertEqual(s.run("profile a 1 0"), "-")
        self.assertEqual(s.run("profile a 1 1"), "0 0")
        self.check_error(s, "profile c 0 1", UnknownMap)
        for line in ("profile a 0 2", "profile a 2 0", "profile b 0 " + "9" * 60):
            self.check_error(s, line, BadPort)
        self.check_error(s, "profile c 9 9", UnknownMap)

    def test_cost(self):
        s = ready(LOAD_E)
        self.assertEqual([s.run("cost e /p0 /p1"), s.run("cost e /p1 /p0"), s.run("cost e /p1 /p1")], ["6", "-", "0"])
        deep = ".".join("0" * 200)
        self.assertEqual(s.run(f"cost e /p0 {deep}/n0"), "401")
        self.check_error(s, "cost f /p0 /p1", UnknownMap)
        for line in ("cost e /p0 /p2", "cost e 1/p0 /p1", "cost e /n1 /n1"):
            self.check_error(s, line, BadPlace)

    def test_enter(self):
        s = ready(LOAD_B)
        for line, word in (("enter c /p0", UnknownMap), ("enter c 7/p9", UnknownMap), ("enter a 0.0/p0", BadPlace)):
            self.check_error(s, line, word)
        self.assertEqual(s.run("enter a 0/p1"), "ok")
        self.assertEqual(told(s), [format_atlas(B), "0/p1", "0"])
        s.run("move /p1")
        self.assertEqual(told(s)[1:], ["/p1", "1"])
        # An error leaves the traveller as it was; another traveller begins anew, in another root as well.
        self.check_error(s, "enter b 0/p0", BadPlace)
        self.assertEqual(s.run("enter b /p0"), "ok")
        self.assertEqual(told(s)[1:], ["/p0", "0"])
        self.check_error(s, "undo", NothingToDo)

    def test_enter_starts_in_the_changed_atlas(self):
        s = ready(LOAD_E, "enter e /p0", "edge e n0 p1 4")
        changed = with_edge(E, "e", ("node", 0), ("port", 1), 4)
        self.assertEqual(s.run("show"), format_atlas(changed))
        self.assertEqual([s.run("table e"), s.run("cost e /p0 /p1"), s.run("profile e 0 1")], ["0 5; - 0", "5", "0 5"])
        self.assertEqual(s.run("enter e /n0"), "ok")
        self.assertEqual(told(s), [format_atlas(changed), "/n0", "0"])
        self.check_error(s, "undo", NothingToDo)
        self.assertEqual(s.run("table e"), "0 5; - 0")

    def test_actions(self):
        s = ready(LOAD_E, "enter e /p0")
        for line, place, total in (
            ("move 0/n0", "0/n0", "3"),
            ("step 1", "0.0/p0", "4"),
            ("undo", "0/n0", "3"),
            ("redo", "0.0/p0", "4"),
            ("edge e n0 p1 4", "0.0/p0", "4"),
            ("move 0.0/p1", "0.0/p1", "9"),
            ("cut e s0.1 p1", "0.0/p1", "9"),
            ("slot e 0 e", "0.0/p1", "9"),
        ):
            self.assertEqual(s.run(line), "ok")
            self.assertEqual(told(s)[1:], [place, total])
        for line, word in (
            ("move /p0", NoRoute),
            ("move 1/p0", BadPlace),
            ("step 0", BadStep),
            ("step " + "9" * 60, BadStep),
            ("edge f n0 p1 1", UnknownMap),
            ("edge e n1 p1 0", BadPoint),
            ("edge e n0 n0 0", BadPoint),
            ("edge e n0 p1 0", BadCost),
            ("cut e p0 s0.2", BadPoint),
            ("cut e p0 p1", NoEdge),
            ("slot f 0 f", UnknownMap),
            ("slot e 1 f", UnknownMap),
            ("slot e 1 e", BadSlot),
            ("redo", NothingToDo),
        ):
            self.check_error(s, line, word)
        for _ in range(6):
            self.assertEqual(s.run("undo"), "ok")
        self.check_error(s, "undo", NothingToDo)
        self.assertEqual(told(s), [format_atlas(E), "/p0", "0"])

    def test_bad_atlas_and_bad_address(self):
        s = ready("load\nmap a 1\nnode x\nslot b\nedge p0 s0.1 1\nmap b 2\nmap c 1", "enter a 0/p1")
        self.assertEqual(self.check_error(s, "slot a 0 c", BadAtlas).reason, ("edge", 0, 0))
        self.assertEqual(s.run("slot a 0 b"), "ok")
        s = ready(LOAD_E, "enter e " + ".".join("0" * 200) + "/n0")
        self.check_error(s, "step 1", BadAddress)
        s = ready("load\nmap a 1\nslot b\nmap b 1\nnode x\nmap c 1", "enter a 0/n0")
        self.check_error(s, "slot a 0 c", BadPlace)

    def test_questions(self):
        s = ready(LOAD_E, "enter e 0.0/n0")
        self.assertEqual([s.run("here"), s.run("spent"), s.run("nearest x")], ["0.0/n0", "0", "0 0.0/n0"])
        self.assertEqual([s.run("nearest y"), s.run("count x 2"), s.run("count x 1"), s.run("count y 2")], ["-", "1", "0", "0"])
        self.assertEqual([s.run("count x 2000"), s.run("count x 0")], ["1", "0"])
        for depth in ("2001", "9" * 60):
            self.check_error(s, "count x " + depth, BadDepth)

    def test_a_nearest_node_at_201_indexes(self):
        atlas = (("o", 1, ("y", "x"), ("o",), ((("node", 0), ("slot", 0, 0), 1), (("port", 0), ("node", 1), 1))),)
        deep = ".".join("0" * 200)
        s = ready("load\n" + format_atlas(atlas), f"enter o {deep}/n0")
        self.assertEqual(s.run("nearest x"), f"2 {deep}.0/n1")

    def test_great_counts(self):
        four = (("f", 1, ("x",) * 8, ("f",) * 4, tuple(sorted(
            [(("port", 0), ("node", j), 1) for j in range(8)] + [(("port", 0), ("slot", s, 0), 1) for s in range(4)]
        ))),)
        s = ready("load\n" + format_atlas(four), "enter f /p0")
        self.assertEqual(s.run("count x 2000"), str(8 * 4**2000))

    def test_two_shells(self):
        first, second = Shell(), Shell()
        first.run(LOAD_E)
        self.check_error(second, "show", NotReady)
        second.run(LOAD_B)
        first.run("enter e /p0")
        self.check_error(second, "here", NotReady)
        second.run("enter a /p1")
        first.run("move 0/n0")
        second.run("cut a p0 p1")
        self.assertEqual(told(first), [format_atlas(E), "0/n0", "3"])
        self.assertEqual(told(second)[1:], ["/p1", "0"])
        first.run("undo")
        self.check_error(first, "undo", NothingToDo)
        self.assertEqual(second.run("undo"), "ok")
        self.assertEqual(told(second)[0], format_atlas(B))
        third = ready(format_atlas(E).join(["load\n", ""]))
        first.run("edge e p0 p1 1")
        self.assertEqual(third.run("table e"), "0 6; - 0")

    def test_rows_of_commands(self):
        """Each output is what the functions and a traveller give for the same values; two shells by turns."""
        rng = Random(1301)
        counts = {}
        for _ in range(40):
            shells = [(Shell(), Model()) for _ in range(2)]
            for _ in range(60):
                s, model = rng.choice(shells)
                line = drawn_line(rng, model)
                expected, found = outcome(model, line), outcome(s, line)
                self.assertEqual(found, expected, line)
                kind = expected[0] if expected[0] != "output" else line.split("\n")[0].split(" ")[0]
                counts[kind] = counts.get(kind, 0) + 1
        for kind in (
            "load", "show", "table", "profile", "cost", "enter", "move", "step", "edge", "cut", "slot", "undo", "redo",
            "here", "spent", "nearest", "count", "NotReady", "UnknownMap", "BadPlace", "NoRoute", "NothingToDo",
        ):
            self.assertGreater(counts.get(kind, 0), 5, kind)


class Model:
    """What a shell should do, for well-formed lines, by the functions for values."""

    def __init__(self):
        self.loaded = None
        self.traveller = None
        self.root = None

    def run(self, line):
        if line.startswith("load\n"):
            self.loaded, self.traveller = parse_atlas(line[5:]), None
            return "ok"
        word, *words = line.split(" ")
        if self.loaded is None or (self.traveller is None and word not in ("show", "table", "profile", "cost", "enter")):
            raise NotReady()
        atlas = self.traveller.current_atlas() if self.traveller else self.loaded
        if word == "show":
            return format_atlas(atlas)
        if word == "table":
            if words[0] not in port_tables(atlas):
                raise UnknownMap()
            rows = port_tables(atlas)[words[0]]
            return "; ".join([" ".join(["-" if cost is None else str(cost) for cost in row]) for row in rows])
        if word == "profile":
            profile = depth_profile(atlas, words[0], int(words[1]), int(words[2]))
            return "; ".join(["%d %d" % pair for pair in profile]) or "-"
        if word == "cost":
            cost = cost_between(atlas, words[0], parse_place(words[1]), parse_place(words[2]))
            return "-" if cost is None else str(cost)
        if word == "enter":
            self.traveller = Traveller(atlas, words[0], parse_place(words[1]))
            self.root = words[0]
            return "ok"
        return self.run_traveller(atlas, word, words)

    def run_traveller(self, atlas, word, words):
        place = self.traveller.here()
        if word == "here":
            return format_place(place)
        if word == "spent":
            return str(self.traveller.spent())
        if word == "nearest":
            found = nearest(atlas, self.root, place, words[0])
            if found is None:
                return "-"
            address, (kind, j) = found[1]
            return str(found[0]) + " " + ".".join(map(str, address)) + "/" + kind[0] + str(j)
        if word == "count":
            return str(count_at(atlas, self.root, place, words[0], int(words[1])))
        if word == "move":
            self.traveller.move(parse_place(words[0]))
        elif word == "step":
            self.traveller.step(int(words[0]))
        elif word == "slot":
            self.traveller.change(("slot", words[0], int(words[1]), words[2]))
        elif word in ("edge", "cut"):
            points = [point_of(words[1]), point_of(words[2])]
            self.traveller.change((word, words[0], *points, *[int(cost) for cost in words[3:]]))
        else:
            getattr(self.traveller, word)()
        return "ok"


def point_of(text):
    """Return the point that is written so."""
    words = {"n": "node", "p": "port", "s": "slot"}
    return (words[text[0]], *[int(index) for index in text[1:].split(".")])


def text_of(point):
    """Return the text of a point."""
    return point[0][0] + ".".join([str(index) for index in point[1:]])


def outcome(teller, line):
    """Return ("output", text), or the name of the error and its fields."""
    try:
        return "output", teller.run(line)
    except (errors.SlotmapsError, NothingToDo, NotReady) as error:
        return type(error).__name__, vars(error)


def drawn_line(rng, model):
    """Return a well-formed line, mostly one that fits the state of the model."""
    atlas = E
    if model.loaded is not None:
        atlas = model.traveller.current_atlas() if model.traveller else model.loaded
    chart = rng.choice(atlas)
    name = chart[0] if rng.random() < 0.95 else "zz"
    root = model.root if model.traveller else chart[0]
    place = format_place(random_place(rng, atlas, root, rng.randint(0, 3)))
    other = format_place(random_place(rng, atlas, chart[0], rng.randint(0, 3)))
    points = points_of(atlas, chart)
    source, target = text_of(rng.choice(points)), text_of(rng.choice(points))
    if rng.random() < 0.5 and chart[4]:
        source, target = [text_of(point) for point in rng.choice(chart[4])[:2]]
    i, j = rng.randint(0, 2), rng.randint(0, 2)
    lines = [
        "show", f"table {name}", f"profile {name} {i} {j}", f"cost {name} {other} {place}", f"enter {name} {other}",
        f"move {place}", f"move {place}", f"step {i}", f"edge {name} {source} {target} {j}", f"cut {name} {source} {target}",
        f"slot {name} {rng.randint(0, 1)} {rng.choice(atlas)[0]}", "undo", "redo", "here", "spent",
        f"nearest {rng.choice(['x', 'y', 'z'])}", f"count {rng.choice(['x', 'y'])} {rng.choice([0, 1, 3, 2000, 2001])}",
    ]
    if model.loaded is None and rng.random() < 0.5 or rng.random() < 0.02:
        return "load\n" + format_atlas(linked_atlas(rng))
    if model.loaded is not None and model.traveller is None and rng.random() < 0.5:
        return f"enter {chart[0]} {other}"
    return rng.choice(lines)


if __name__ == "__main__":
    unittest.main()
