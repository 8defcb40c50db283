"""Atlases and places as texts."""

from slotmaps.atlases import atlas_error, checked_atlas
from slotmaps.checks import is_count, is_name, is_tuple
from slotmaps.errors import BadPlace, BadText
from slotmaps.places import MOST_INDEXES

MOST_DIGITS = 60
LETTERS = {"node": "n", "port": "p", "slot": "s"}
# The part of a map to which a line adds.
PARTS = {"node": 2, "slot": 3, "edge": 4}


def format_atlas(atlas):
    """Return the text of an atlas."""
    checked_atlas(atlas)
    return "\n".join([line for chart in atlas for line in map_lines(chart)])


def format_place(place):
    """Return the text of a place, or of any value like one."""
    if not is_place_form(place):
        raise BadPlace()
    return place_text(place)


def parse_atlas(text):
    """Return the atlas that is written so."""
    if not isinstance(text, str):
        raise BadText(0)
    lines = text.split("\n")
    maps = []
    for k, line in enumerate(lines):
        parsed = parsed_line(line)
        if parsed is None or not follows(maps, parsed[0]):
            raise BadText(k)
        add_line(maps, parsed)
    atlas = tuple([tuple(chart[:2] + [tuple(part) for part in chart[2:]]) for chart in maps])
    if atlas_error(atlas) is not None:
        raise BadText(len(lines))
    return atlas


def parse_place(text):
    """Return the place that is written so."""
    place = parsed_place(text) if isinstance(text, str) else None
    if place is None:
        raise BadText(0)
    return place


def map_lines(chart):
    """Return the lines of a map."""
    name, ports, labels, slots, edges = chart
    return (
        [f"map {name} {ports}"]
        + [f"node {label}" for label in labels]
        + [f"slot {inner}" for inner in slots]
        + [f"edge {point_text(source)} {point_text(target)} {cost}" for source, target, cost in edges]
    )


def point_text(point):
    """Return the text of a point."""
    return LETTERS[point[0]] + ".".join([str(index) for index in point[1:]])


def place_text(place):
    """Return the text of a place with an address of any length."""
    address, point = place
    return ".".join([str(s) for s in address]) + "/" + point_text(point)


def is_place_form(value):
    """Return whether the value is like a place, as far as this can be told without an atlas."""
    if not is_tuple(value, 2, 2):
        return False
    address, point = value
    if not is_tuple(address, 0, MOST_INDEXES) or not is_tuple(point, 2, 2):
        return False
    return point[0] in ("node", "port") and all([is_count(index) for index in address + point[1:]])


def parsed_line(line):
    """Return (word, value) for a line of an atlas, or None if it is malformed."""
    words = line.split(" ")
    word, size = words[0], len(words)
    if word == "map" and size == 3 and is_name(words[1]) and is_number(words[2]):
        return (word, (words[1], int(words[2])))
    if word in ("node", "slot") and size == 2 and is_name(words[1]):
        return (word, words[1])
    if word == "edge" and size == 4 and is_number(words[3]):
        source, target = parsed_point(words[1]), parsed_point(words[2])
        if source is not None and target is not None:
            return (word, (source, target, int(words[3])))
    return None


def follows(maps, word):
    """Return whether a line that begins with the word may stand behind these maps, the last of which is not ended."""
    if word == "map" or not maps:
        return word == "map"
    _, _, _, slots, edges = maps[-1]
    if word == "node":
        return not slots and not edges
    return word == "edge" or not edges


def add_line(maps, parsed):
    """Add what a line says to the maps, which are lists while they are read."""
    word, value = parsed
    if word == "map":
        name, ports = value
        maps.append([name, ports, [], [], []])
    else:
        maps[-1][PARTS[word]].append(value)


def parsed_point(word):
    """Return the point that is written so, or None."""
    letter, indexes = word[:1], word[1:].split(".")
    if not all([is_number(index) for index in indexes]):
        return None
    if letter == "s" and len(indexes) == 2:
        return ("slot", int(indexes[0]), int(indexes[1]))
    if letter in ("n", "p") and len(indexes) == 1:
        return ("node" if letter == "n" else "port", int(indexes[0]))
    return None


def parsed_place(text):
    """Return the place that is written so, or None."""
    before, slash, behind = text.partition("/")
    indexes = before.split(".") if before else []
    point = parsed_point(behind)
    if not slash or point is None or point[0] == "slot" or len(indexes) > MOST_INDEXES:
        return None
    if not all([is_number(index) for index in indexes]):
        return None
    return (tuple([int(index) for index in indexes]), point)


def is_number(word):
    """Return whether a word is an integer from 0 on, of at most so many digits, as it is written."""
    if not 1 <= len(word) <= MOST_DIGITS or (word[0] == "0" and word != "0"):
        return False
    return all(["0" <= sign <= "9" for sign in word])
