"""Texts of maps and worlds: how they are written, and how they are read."""

from shutroads.errors import BadText
from shutroads.maps import (
    LEAST_PLACES, MOST_PLACES, MOST_SHUT, Map, are_ends, are_triples, check_map, check_world, is_within, is_world
)

DIGITS = "0123456789"
NO_ROADS = "shut -"


def map_text(chart):
    """Return the text of a map."""
    check_map(chart)
    begin, goal = chart.ends
    rows = [f"places {chart.places}"]
    rows.extend([f"road {first} {second} {length}" for first, second, length in chart.roads])
    rows.extend([f"ends {begin} {goal}", f"most {chart.most}"])
    return "".join([f"{row}\n" for row in rows])


def world_text(chart, world):
    """Return the text of a world."""
    check_map(chart)
    check_world(chart, world)
    words = ["shut", *[str(road) for road in world]]
    row = " ".join(words) if world else NO_ROADS
    return f"{row}\n"


def _lines(text):
    """Return the list of the lines of a text, and the characters that follow the last line feed."""
    if not isinstance(text, str):
        raise BadText(0)
    parts = text.split("\n")
    return parts[:-1], parts[-1]


def _is_number(word):
    """Return whether a word is a number of one digit."""
    return len(word) == 1 and word in DIGITS


def _numbers_at(lines, row, name):
    """Return the tuple of the numbers that follow a name in a row.

    It is empty if the row is missing, begins with another word, or holds a word that is no number of one digit.
    """
    if row >= len(lines):
        return ()
    words = lines[row].split(" ")
    if words[0] != name or not all([_is_number(word) for word in words[1:]]):
        return ()
    return tuple([int(word) for word in words[1:]])


def _check_end(lines, rest, row):
    """Raise BadText if a text does not end where a row would begin."""
    if len(lines) > row or rest != "":
        raise BadText(row)


def _read_places(lines):
    """Return the number of places in the first row."""
    numbers = _numbers_at(lines, 0, "places")
    if len(numbers) != 1 or not is_within(numbers[0], LEAST_PLACES, MOST_PLACES):
        raise BadText(0)
    return numbers[0]


def _read_roads(lines, places):
    """Return the tuple of the roads in the rows behind the first one, as many as a map can have."""
    roads = ()
    more = (_numbers_at(lines, 1, "road"),)
    while are_triples(places, more):
        roads = more
        more = (*roads, _numbers_at(lines, len(more) + 1, "road"))
    if roads == ():
        raise BadText(1)
    return roads


def _read_ends(lines, row, places):
    """Return the ends of a map in a row."""
    ends = _numbers_at(lines, row, "ends")
    if not are_ends(places, ends):
        raise BadText(row)
    return ends


def _read_most(lines, row):
    """Return the greatest number of roads that are shut in a row."""
    numbers = _numbers_at(lines, row, "most")
    if len(numbers) != 1 or not is_within(numbers[0], 0, MOST_SHUT):
        raise BadText(row)
    return numbers[0]


def read_map(text):
    """Return the Map that a text tells."""
    lines, rest = _lines(text)
    places = _read_places(lines)
    roads = _read_roads(lines, places)
    # A row that is no further road must be that of the ends, and a row that is missing has the number of lines.
    row = 1 + len(roads)
    ends = _read_ends(lines, row, places)
    most = _read_most(lines, row + 1)
    _check_end(lines, rest, row + 2)
    return Map(places, roads, ends, most)


def _read_shut(chart, lines):
    """Return the world of a map in the first row."""
    if lines[:1] == [NO_ROADS]:
        return ()
    world = _numbers_at(lines, 0, "shut")
    if world == () or not is_world(chart, world):
        raise BadText(0)
    return world


def read_world(chart, text):
    """Return the world of a map that a text tells."""
    check_map(chart)
    lines, rest = _lines(text)
    world = _read_shut(chart, lines)
    _check_end(lines, rest, 1)
    return world
