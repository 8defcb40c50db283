"""Atlases and places as texts: [44] and [45]."""

import unittest
from random import Random

from slotmaps.atlases import atlas_error, is_atlas
from slotmaps.errors import BadAtlas, BadPlace, BadText
from slotmaps.places import is_place
from slotmaps.texts import format_atlas, format_place, parse_atlas, parse_place
from tests.drawn import drawn_atlas
from tests.samples import FULL, LOOP, ODD_VALUES, UP, B, E, random_atlas, random_place, random_value, winding_atlas

TEXT = "map e 2\nnode x\nslot e\nedge n0 p1 5\nedge n0 s0.0 1\nedge p0 n0 1\nedge s0.1 p1 1"
# Two maps with lines of each kind; the word at the beginning tells the kind.
LINES = [
    "map a 2",
    "node x",
    "node y",
    "slot b",
    "slot b",
    "edge n0 p1 5",
    "edge s0.0 s1.0 1000000",
    "map b 1",
    "node x",
    "slot a",
    "edge p0 n0 1",
]


class FormatAtlasTest(unittest.TestCase):
    def test_example(self):
        self.assertEqual(format_atlas(E), TEXT)

    def test_each_line(self):
        atlas = (
            ("a", 2, ("x", "y"), ("b", "b"), (
                (("node", 0), ("port", 1), 5), (("slot", 0, 0), ("slot", 1, 0), 1000000),
            )),
            ("b", 1, ("x",), ("a",), ((("port", 0), ("node", 0), 1),)),
        )
        self.assertEqual(format_atlas(atlas), "\n".join(LINES))
        self.assertEqual(format_atlas((("abcdefgh", 4, (), (), ()),)), "map abcdefgh 4")
        self.assertEqual(format_atlas((("a", 1, (), (), ()), ("b", 3, (), (), ()))), "map a 1\nmap b 3")

    def test_atlases_of_every_size(self):
        rng = Random(1101)
        for atlas in [E, B, FULL, LOOP, UP, winding_atlas()] + [random_atlas(rng) for _ in range(60)]:
            before = repr(atlas)
            text = format_atlas(atlas)
            lines = text.split("\n")
            self.assertEqual(len(lines), sum([1 + len(c[2]) + len(c[3]) + len(c[4]) for c in atlas]))
            self.assertEqual([line for line in lines if line != line.strip() or "  " in line or not line], [])
            found = parse_atlas(text)
            self.assertEqual((repr(found), repr(atlas)), (before, before))
            self.assertEqual(format_atlas(found), text)

    def test_no_atlas(self):
        for value in ODD_VALUES:
            with self.assertRaises(BadAtlas) as caught:
                format_atlas(value)
            self.assertEqual(caught.exception.reason, atlas_error(value))


class FormatPlaceTest(unittest.TestCase):
    def check(self, place, text):
        self.assertEqual(format_place(place), text)
        self.assertEqual(repr(parse_place(text)), repr(place))

    def test_example(self):
        self.check(((0, 0), ("node", 0)), "0.0/n0")

    def test_some(self):
        self.check(((), ("port", 1)), "/p1")
        self.check(((3,), ("port", 0)), "3/p0")
        self.check(((1, 20, 300), ("node", 45)), "1.20.300/n45")
        self.check(((0,) * 200, ("node", 7)), ".".join("0" * 200) + "/n7")
        great = 10**60 - 1
        self.check(((great, 0, great), ("port", great)), f"{great}.0.{great}/p{great}")

    def test_integers_that_cannot_be_read_again(self):
        for number in (10**60, 10**399):
            self.assertEqual(format_place(((number,), ("node", 0))), f"{number}/n0")
            self.assertEqual(format_place(((), ("port", number))), f"/p{number}")
            for text in (f"{number}/n0", f"/p{number}"):
                with self.assertRaises(BadText):
                    parse_place(text)

    def test_places_of_atlases(self):
        rng = Random(1102)
        for _ in range(200):
            atlas = drawn_atlas(rng)
            root = rng.choice(atlas)[0]
            place = random_place(rng, atlas, root, rng.choice([0, 1, 5, 200]))
            found = parse_place(format_place(place))
            self.assertEqual(repr(found), repr(place))
            self.assertTrue(is_place(atlas, root, found))

    def test_values_that_are_not_like_places(self):
        point = ("port", 0)
        for value in (
            [(), point],
            ((), point, 0),
            ((),),
            ([], point),
            ((), list(point)),
            ((0,) * 201, point),
            ((True,), point),
            ((0, False), point),
            ((-1,), point),
            (("0",), point),
            ((None,), point),
            (((0,),), point),
            ((), ("port", True)),
            ((), ("port", -1)),
            ((), ("port", "0")),
            ((), ("port",)),
            ((), ("port", 0, 0)),
            ((), ("slot", 0, 0)),
            ((), ("slot", 0)),
            ((), ("Port", 0)),
            ((), ("p", 0)),
            ((), (0, "port")),
            ((), ()),
            ((), None),
            ("", point),
            ({}, point),
            (None, point),
            point,
            "/p0",
        ):
            with self.assertRaises(BadPlace):
                format_place(value)

    def test_values_of_any_kind(self):
        rng = Random(1103)
        for value in ODD_VALUES + [random_value(rng) for _ in range(2000)]:
            try:
                self.assertEqual(parse_place(format_place(value)), value)
            except BadPlace:
                self.assertFalse(is_place(FULL, FULL[0][0], value))
            except BadText:
                self.assertGreater(max([0] + list(value[0]) + [value[1][1]]), 10**60 - 1)
        for value in ODD_VALUES:
            for whole in ((value, ("port", 0)), ((value,), ("port", 0)), ((), value), ((), ("port", value))):
                if value != () and whole not in (((), ("port", 0)),):
                    if not (isinstance(value, tuple) and value == (10**399,)):
                        with self.assertRaises(BadPlace):
                            format_place(whole)


class ParseAtlasTest(unittest.TestCase):
    def check_bad(self, text, line):
        with self.assertRaises(BadText) as caught:
            parse_atlas(text)
        self.assertIs(type(caught.exception), BadText)
        self.assertEqual(repr(caught.exception.line), repr(line))

    def test_example(self):
        self.assertEqual(repr(parse_atlas(TEXT)), repr(E))

    def test_lines(self):
        found = parse_atlas("\n".join(LINES))
        self.assertTrue(is_atlas(found))
        self.assertEqual(format_atlas(found).split("\n"), LINES)

    def test_no_strings(self):
        for value in ODD_VALUES + [E, [TEXT], (TEXT,), {0: TEXT}]:
            if not isinstance(value, str):
                self.check_bad(value, 0)

    def test_empty_lines(self):
        self.check_bad("", 0)
        self.check_bad("\n", 0)
        self.check_bad(TEXT + "\n", 7)
        self.check_bad(TEXT + "\n\n", 7)
        self.check_bad("\n" + TEXT, 0)
        for k in range(len(LINES) + 1):
            self.check_bad("\n".join(LINES[:k] + [""] + LINES[k:]), k)
            self.check_bad("\n".join(LINES[:k] + [" "] + LINES[k:]), k)

    def test_malformed_lines(self):
        """Each line broken in each way; what follows it changes nothing."""
        for k, line in enumerate(LINES):
            words = line.split(" ")
            broken = [line + " ", " " + line, line + " 0", line + " x", line.replace(" ", "  ", 1), line + "\t"]
            broken += [" ".join(words[:-1]), words[0], line.upper(), line[0].upper() + line[1:], "x" + line, line[1:]]
            broken += [line.replace(" ", "", 1), line.replace(" ", "-", 1), line + ".", line + "-", line + "+"]
            for at in range(1, len(words)):
                for word in self.broken_words(words[0], at, words[at]):
                    broken.append(" ".join(words[:at] + [word] + words[at + 1 :]))
            for other in broken:
                self.assertNotEqual(other, line)
                self.check_bad("\n".join(LINES[:k] + [other] + LINES[k + 1 :]), k)
                self.check_bad("\n".join(LINES[:k] + [other, "", "x"] + LINES[k + 1 :]), k)
                self.check_bad("\n".join(LINES[:k] + [other]), k)

    def broken_words(self, kind, at, word):
        """Return words that cannot stand at this place of a line of this kind."""
        if kind in ("node", "slot") or (kind == "map" and at == 1):
            return ["", "A", "abcdefghi", "a1", "a-", "1", "a.b", "a_b", word + "B"]
        numbers = ["", "-1", "+1", "01", "00", "0x1", "1a", "a", "1.0", "1,0", "1_0", "1" * 61, "0" * 60, "1-"]
        if kind == "map" or at == 3:
            return numbers
        points = ["n" + number for number in numbers if "." not in number] + ["p" + number for number in numbers[:-5]]
        points += ["s" + number + ".0" for number in numbers] + ["s0." + number for number in numbers]
        return points + ["n", "p", "s", "s0", "s0.", "s.0", "n0.0", "p0.0", "s0.0.0", "m0", "N0", "0", "0n", "node0", "nn0"]

    def test_misplaced_lines(self):
        for k, line in enumerate(LINES):
            if not line.startswith("map"):
                self.check_bad(line, 0)
                self.check_bad("\n".join([line] + LINES), 0)
        for line in ("node x", "slot a", "edge p0 n0 1"):
            self.check_bad(line + "\nmap a 1", 0)
        # A node behind a slot or an edge of its map, a slot behind an edge of its map.
        for k in (4, 5, 6, 7, 10, 11):
            self.check_bad("\n".join(LINES[:k] + ["node x"] + LINES[k:]), k)
        for k in (6, 7, 11):
            self.check_bad("\n".join(LINES[:k] + ["slot a"] + LINES[k:]), k)
        # These may stand there: slots at the end of the slots, nodes at the end of the nodes.
        for k in (1, 2, 3, 8, 9):
            parse_atlas("\n".join(LINES[:k] + ["node x"] + LINES[k:]))
        for k in (5, 10):
            parse_atlas("\n".join(LINES[:k] + ["slot a"] + LINES[k:]))
        parse_atlas("map a 1\nslot a\nmap b 1\nnode x")
        parse_atlas("map a 1\nedge p0 s0.0 1".replace("edge", "slot a\nedge"))

    def test_lines_that_make_no_atlas(self):
        for text in (
            "map a 0",
            "map a 5",
            "map a " + "9" * 60,
            "map a 1\nmap a 1",
            "map b 1\nmap a 1",
            "map a 1\nslot b",
            "map a 1\nedge p0 p0 1",
            "map a 1\nedge p0 p1 1",
            "map a 2\nedge p0 p1 0",
            "map a 2\nedge p0 p1 1000001",
            "map a 2\nedge p0 p1 " + "9" * 60,
            "map a 2\nedge p1 p0 1\nedge p0 p1 1",
            "map a 2\nedge p0 p1 1\nedge p0 p1 2",
            "map a 2\nedge p0 n0 1",
            "map a 2\nedge p0 s0.0 1",
            "map a 2\nslot a\nedge p0 s0.2 1",
            "map a 1\n" + "\n".join(["node x"] * 9),
            "map a 1\n" + "\n".join(["slot a"] * 5),
            "map a 1\n" + "\n".join(["edge p0 n0 1"] * 41),
            "\n".join(["map " + "abcdefghi"[k] + " 1" for k in range(9)]),
        ):
            self.check_bad(text, len(text.split("\n")))
        # Eight maps, eight nodes and four slots are an atlas.
        parse_atlas("\n".join(["map " + "abcdefghi"[k] + " 1" for k in range(8)]))
        parse_atlas("map a 4\n" + "\n".join(["node x"] * 8 + ["slot a"] * 4))

    def test_a_malformed_line_comes_before_what_makes_no_atlas(self):
        self.check_bad("map a 9\nmap a 9\nmap b 1\nnod x", 3)
        self.check_bad("map a 9\nedge p0 p0 0\nslot a", 2)

    def test_digits(self):
        parse_atlas("map a 1\nedge n0 p0 1".replace("edge", "node x\nedge"))
        self.check_bad("map a " + "1" * 60, 1)
        self.check_bad("map a " + "1" * 61, 0)
        for count in (60, 61):
            number = "1" * count
            for line in (f"edge n{number} p0 1", f"edge p0 s{number}.0 1", f"edge p0 s0.{number} 1", f"edge p0 n0 {number}"):
                self.check_bad("map a 1\n" + line, 2 if count == 60 else 1)

    def test_random_texts(self):
        """What is accepted is written just so."""
        rng = Random(1104)
        signs = "map node slot edge abexn0123456789.\n- /"
        accepted = 0
        for _ in range(4000):
            text = rng.choice([TEXT, "\n".join(LINES)])
            for _ in range(rng.randint(1, 2)):
                k = rng.randrange(len(text) + 1)
                text = text[:k] + rng.choice(["", rng.choice(signs)]) + text[k + rng.choice([0, 1]) :]
            try:
                found = parse_atlas(text)
            except BadText as error:
                self.assertTrue(0 <= error.line <= len(text.split("\n")))
            else:
                self.assertEqual(format_atlas(found), text)
                accepted += 1
        self.assertGreater(accepted, 100)


class ParsePlaceTest(unittest.TestCase):
    def check_bad(self, text):
        with self.assertRaises(BadText) as caught:
            parse_place(text)
        self.assertEqual(repr(caught.exception.line), "0")

    def test_example(self):
        self.assertEqual(repr(parse_place("/p1")), repr(((), ("port", 1))))

    def test_lengths(self):
        number = "9" * 60
        self.assertEqual(parse_place(f"{number}/n{number}"), ((int(number),), ("node", int(number))))
        self.assertEqual(parse_place(".".join(["7"] * 200) + "/p0"), ((7,) * 200, ("port", 0)))
        for text in (".".join(["7"] * 201) + "/p0", f"1{number}/p0", f"0.1{number}/p0", f"/p1{number}", f"/n1{number}"):
            self.check_bad(text)

    def test_broken(self):
        for text in (
            "", "/", "p0", "0", "0/", "0.0", "0.0/", "/p", "/n", "/0", "/x0", "/P0", "/s0.0", "/s0", "/p0.0", "/p-0",
            "/p00", "/p01", "/p+1", "/p0 ", " /p0", "/ p0", "/p0\n", "\n/p0", "//p0", "/p0/", "/p0/p0", "./p0", "0./p0",
            ".0/p0", "0..0/p0", "00/p0", "01/p0", "-1/p0", "+1/p0", "0,0/p0", "0.0 /p0", "0. 0/p0", "a/p0", "(0)/p0",
            "0/0/p0", "0.0/pn0", "0.0/port0", "0\\p0", "1_0/p0", "0x1/p0",
        ):
            self.check_bad(text)

    def test_no_strings(self):
        for value in ODD_VALUES:
            self.check_bad(value)

    def test_random_texts(self):
        rng = Random(1105)
        accepted = 0
        for _ in range(20000):
            text = "".join([rng.choice("0123/.np") for _ in range(rng.randint(1, 7))])
            try:
                found = parse_place(text)
            except BadText as error:
                self.assertEqual(error.line, 0)
            else:
                self.assertEqual(format_place(found), text)
                accepted += 1
        self.assertGreater(accepted, 50)


if __name__ == "__main__":
    unittest.main()
