import re
import unittest
from itertools import product
from random import Random

import model
from model import FORK, OTHER_KINDS, Plan
from shutroads.errors import BadMap, BadText, BadWorld
from shutroads.maps import Map, worlds
from shutroads.texts import map_text, read_map, read_world, world_text

FORK_TEXT = "places 3\nroad 0 1 1\nroad 0 2 5\nroad 1 2 1\nends 0 2\nmost 1\n"
EIGHT = Plan(6, tuple((place, place + 1, length) for place in range(4) for length in (1, 9)), (5, 0), 3)
# Characters that some functions of Python take for spaces, line ends or digits.
ODD = ("\r", "\t", "\v", "\f", "\x1c", "\x85", "\u2028", "\u00a0", "\u3000", "\x00", "\ufeff", "\ud800")
ODD_DIGITS = ("\u0663", "\uff13", "\u00b3", "\u2462", "\u0969", "\U0001d7db")


def wanted_text(plan):
    rows = [("places", plan.places), *[("road", *triple) for triple in plan.roads], ("ends", *plan.ends),
            ("most", plan.most)]
    return "".join(" ".join(map(str, row)) + "\n" for row in rows)


def wanted_row(text):
    """Return the row of the first line that is not right in a text of a map, None if it can be read."""
    lines = text.split("\n")
    tail = lines.pop()
    places, roads, step = 0, [], "places"
    for row, line in enumerate(lines):
        if step == "places" and re.fullmatch("places [2-6]", line):
            places, step = int(line[-1]), "roads"
            continue
        found = re.fullmatch("road ([0-9]) ([0-9]) ([1-9])", line)
        if step == "roads" and found and len(roads) < 8:
            first, second, length = map(int, found.groups())
            if first < second < places and (not roads or roads[-1] < (first, second, length)):
                roads.append((first, second, length))
                continue
        found = re.fullmatch("ends ([0-9]) ([0-9])", line)
        if step == "roads" and roads and found and found[1] != found[2] and max(map(int, found.groups())) < places:
            step = "most"
            continue
        if step == "most" and re.fullmatch("most [0-3]", line):
            step = "end"
            continue
        return row
    return len(lines) if step != "end" or tail else None


def wanted_world_row(plan, text):
    """Return the row of the first line that is not right in a text of a world, None if it can be read."""
    right = {"shut " + (" ".join(map(str, world)) or "-") for world in model.world_list(plan)}
    lines = text.split("\n")
    tail = lines.pop()
    if not lines or lines[0] not in right:
        return 0
    return 1 if len(lines) > 1 or tail else None


class TextTest(unittest.TestCase):
    def assert_map(self, text, row="as in the model"):
        """Check that a text is refused at a row, or read if this is None."""
        wanted = wanted_row(text)
        with self.subTest(text=text):
            if row != "as in the model":
                self.assertEqual(wanted, row)
            if wanted is None:
                self.assertEqual(map_text(read_map(text)), text)
                return
            with self.assertRaises(BadText) as caught:
                read_map(text)
            self.assertEqual((caught.exception.row, type(caught.exception.row)), (wanted, int))

    def assert_world(self, plan, text, row="as in the model"):
        wanted = wanted_world_row(plan, text)
        with self.subTest(text=text):
            if row != "as in the model":
                self.assertEqual(wanted, row)
            if wanted is None:
                self.assertEqual(world_text(Map(*plan), read_world(Map(*plan), text)), text)
                return
            with self.assertRaises(BadText) as caught:
                read_world(Map(*plan), text)
            self.assertEqual((caught.exception.row, type(caught.exception.row)), (wanted, int))


class Example(unittest.TestCase):
    def test_the_example_of_the_document(self):
        fork = Map(3, ((0, 1, 1), (0, 2, 5), (1, 2, 1)), (0, 2), 1)
        texts = [map_text(fork), world_text(fork, (2,)), world_text(fork, ()), read_world(fork, 'shut 0\n'),
                 read_map(map_text(fork)) == fork]
        self.assertEqual(texts, ['places 3\nroad 0 1 1\nroad 0 2 5\nroad 1 2 1\nends 0 2\nmost 1\n', 'shut 2\n',
                                 'shut -\n', (0,), True])

    def test_all_is_defined_in_its_file(self):
        some = (map_text, world_text, read_map, read_world)
        self.assertEqual({found.__module__ for found in some}, {"shutroads.texts"})


class RoundTrips(unittest.TestCase):
    def test_maps(self):
        for plan in [EIGHT, *model.all_plans()]:
            text = map_text(Map(*plan))
            self.assertEqual(text, wanted_text(plan))
            found = read_map(text)
            self.assertIs(type(found), Map)
            self.assertEqual(found, Map(*plan))
            self.assertEqual((found.places, found.roads, found.ends, found.most), plan)
            self.assertEqual(map_text(found), text)

    def test_worlds(self):
        for plan in [EIGHT, *model.all_plans()[:60]]:
            chart = Map(*plan)
            for world in worlds(chart):
                text = world_text(chart, world)
                self.assertEqual(text, "shut " + (" ".join(map(str, world)) or "-") + "\n")
                found = read_world(chart, text)
                self.assertEqual((found, type(found)), (world, tuple))

    def test_values_at_the_limits(self):
        for places, most in product(range(2, 7), range(4)):
            plan = Plan(places, ((0, places - 1, 1), (0, places - 1, 9)), (places - 1, 0), most)
            self.assertEqual(read_map(map_text(Map(*plan))), Map(*plan))
        self.assertEqual(len(read_map(wanted_text(EIGHT))), 8)


class WrongMaps(TextTest):
    def test_a_text_that_is_none(self):
        for text in (*OTHER_KINDS, 0, 1, (), (FORK_TEXT,), [FORK_TEXT], FORK_TEXT.encode(), Map(*FORK)):
            if not isinstance(text, str):
                with self.subTest(text=text), self.assertRaises(BadText) as caught:
                    read_map(text)
                self.assertEqual((caught.exception.row, type(caught.exception.row)), (0, int))

    def test_empty_texts_and_lines(self):
        self.assert_map("", 0)
        self.assert_map("\n", 0)
        self.assert_map("\n" + FORK_TEXT, 0)
        self.assert_map(FORK_TEXT + "\n", 6)
        for row in range(6):
            lines = FORK_TEXT.split("\n")
            self.assert_map("\n".join([*lines[:row], "", *lines[row:]]), row)
            self.assert_map("\n".join([*lines[:row], "", *lines[row + 1:]]), row)

    def test_missing_lines_and_characters_at_the_end(self):
        lines = FORK_TEXT.split("\n")[:-1]
        for count in range(6):
            text = "".join(line + "\n" for line in lines[:count])
            self.assert_map(text, count)
            # What is not terminated is no line, whatever it is.
            self.assert_map(text + lines[count], count)
            self.assert_map(text + "x", count)
            self.assert_map(text + " ", count)
        for more in ("x", " ", "most 1", "\r", "0", "places 3", "\x00"):
            self.assert_map(FORK_TEXT + more, 6)
            self.assert_map(FORK_TEXT + more + "\n", 6)
            self.assert_map(FORK_TEXT + "\n" + more, 6)
        # The first line that is wrong comes ahead of characters behind the last line feed.
        self.assert_map("places 7\nroad", 0)
        self.assert_map("places 3\nroad 0 1 0\nroad", 1)

    def test_each_line_changed_left_out_added_twice_or_elsewhere(self):
        source = Random(1)
        kinds = ["places 3", "places 2", "road 0 1 1", "road 1 2 1", "road 0 1 9", "ends 0 1", "ends 1 0", "most 0", "most 3",
                 "shut -", "shut 0", "-", "", " ", "places", "road", "ends", "most", "road 0 1", "road 0 1 1 1", "ends 0",
                 "ends 0 1 1", "places 3 3", "most 1 1"]
        for plan in [FORK, EIGHT, *[model.random_plan(source) for _ in range(12)]]:
            lines = wanted_text(plan).split("\n")[:-1]
            for row in range(len(lines) + 1):
                changes = [[*lines[:row], other, *lines[row:]] for other in [*kinds, *lines]]
                changes += [[*lines[:row], other, *lines[row + 1:]] for other in [*kinds, *lines]]
                changes.append([*lines[:row], *lines[row + 1:]])
                changes += [[*lines[:row], *lines[row:row + 1] * count, *lines[row + 1:]] for count in (2, 3)]
                for changed in changes:
                    self.assert_map("".join(line + "\n" for line in changed))
            for one, two in product(range(len(lines)), repeat=2):
                changed = list(lines)
                changed[one], changed[two] = changed[two], changed[one]
                self.assert_map("".join(line + "\n" for line in changed))

    def test_each_character_changed_left_out_or_added(self):
        others = [*" \n-+0123456789abePRm.,_", *ODD, *ODD_DIGITS]
        for text in (FORK_TEXT, "places 2\nroad 0 1 9\nends 1 0\nmost 3\n"):
            for at in range(len(text) + 1):
                self.assert_map(text[:at] + text[at + 1:])
                for other in others:
                    self.assert_map(text[:at] + other + text[at:])
                    self.assert_map(text[:at] + other + text[at + 1:])

    def test_spaces(self):
        lines = FORK_TEXT.split("\n")[:-1]
        for row, line in enumerate(lines):
            for changed in (line + " ", " " + line, line.replace(" ", "  ", 1), line.replace(" ", "  "), line.replace(" ", ""),
                            line.replace(" ", "\t"), line + "\r", line + "\t", line.replace(" ", " \t"), line.upper(),
                            line.title(), line.replace(" ", "_"), line.replace(" ", "\u00a0")):
                text = "".join(one + "\n" for one in [*lines[:row], changed, *lines[row + 1:]])
                self.assert_map(text, row)
        self.assert_map(FORK_TEXT.replace("\n", "\r\n"), 0)
        self.assert_map(FORK_TEXT.replace("\n", "\r"), 0)

    def test_numbers(self):
        for row, line in enumerate(FORK_TEXT.split("\n")[:-1]):
            for at, sign in enumerate(line):
                if sign.isdigit():
                    for other in ("0" + sign, sign + "0", "10", "11", "+" + sign, "-" + sign, "x", "", "one", "0x1", "1.", "1_1",
                                  *ODD_DIGITS, *[sign + odd for odd in ODD], "-1", "99", sign + " "):
                        changed = line[:at] + other + line[at + 1:]
                        lines = FORK_TEXT.split("\n")
                        lines[row] = changed
                        self.assert_map("\n".join(lines), row)

    def test_limits_of_numbers(self):
        tail = "ends 0 1\nmost 1\n"
        for digit in "0123456789":
            self.assert_map(f"places {digit}\nroad 0 1 1\n" + tail, None if digit in "23456" else 0)
            self.assert_map(f"places 2\nroad 0 1 {digit}\n" + tail, None if digit != "0" else 1)
            self.assert_map(f"places 2\nroad 0 1 1\nends 0 1\nmost {digit}\n", None if digit in "0123" else 3)
            self.assert_map(f"places 4\nroad 1 {digit} 1\n" + tail, None if digit in "23" else 1)
            self.assert_map(f"places 4\nroad {digit} 2 1\n" + tail, None if digit in "01" else 1)
            self.assert_map(f"places 4\nroad 0 1 1\nends 1 {digit}\nmost 1\n", None if digit in "023" else 2)
            self.assert_map(f"places 4\nroad 0 1 1\nends {digit} 1\nmost 1\n", None if digit in "023" else 2)

    def test_order_of_roads(self):
        for triples, row in (
            (["0 1 1", "0 1 2"], None), (["0 1 2", "0 1 1"], 2), (["0 1 1", "0 1 1"], 2), (["0 2 1", "0 1 9"], 2),
            (["1 2 1", "0 2 9"], 2), (["0 1 9", "0 2 1", "1 2 1"], None), (["0 1 1", "1 2 1", "0 2 1"], 3),
            (["0 1 1", "1 2 1", "0 1 1"], 3), (["0 1 1", "1 2 1", "1 2 1"], 3), (["1 0 1"], 1), (["1 1 1"], 1),
            (["0 3 1"], 1), (["0 1 1", "2 2 1"], 2), (["0 1 1", "0 9 1"], 2),
        ):
            self.assert_map("places 3\n" + "".join(f"road {triple}\n" for triple in triples) + "ends 0 1\nmost 1\n", row)

    def test_a_ninth_road(self):
        lines = wanted_text(EIGHT).split("\n")[:-1]
        for ninth in ("road 4 5 1", "road 4 5 9", "road 0 1 1", "road 9 9 0", "road"):
            text = "".join(line + "\n" for line in [*lines[:9], ninth, *lines[9:]])
            self.assert_map(text, 9)
            self.assert_map("".join(line + "\n" for line in [*lines[:9], ninth]), 9)
        self.assert_map("".join(line + "\n" for line in lines[:9]) + "road 4 5 1", 9)

    def test_no_roads(self):
        self.assert_map("places 3\nends 0 2\nmost 1\n", 1)
        self.assert_map("places 3\nmost 1\n", 1)
        self.assert_map("places 3\n", 1)

    def test_lines_behind_the_last_one(self):
        for more in ("most 1", "most 2", "places 3", "road 1 2 9", "ends 0 1", "", " ", "#"):
            self.assert_map(FORK_TEXT + more + "\n", 6)
            self.assert_map(FORK_TEXT + more + "\n" + more + "\n", 6)
        self.assert_map(FORK_TEXT + FORK_TEXT, 6)

    def test_drawn_changes(self):
        source = Random(2)
        for _ in range(3000):
            text = wanted_text(model.random_plan(source))
            for _ in range(source.randint(1, 3)):
                at = source.randrange(len(text) + 1)
                other = source.choice(["", " ", "\n", *"0123456789", "places", "road", "ends", "most", "\nroad 0 1 1"])
                text = text[:at] + other + text[at + source.randint(0, 2):]
            self.assert_map(text)


class WrongWorlds(TextTest):
    def test_a_text_that_is_none(self):
        for text in (*OTHER_KINDS, 0, 1, (), ("shut -\n",), ["shut -\n"], b"shut -\n"):
            if not isinstance(text, str):
                with self.subTest(text=text), self.assertRaises(BadText) as caught:
                    read_world(Map(*FORK), text)
                self.assertEqual((caught.exception.row, type(caught.exception.row)), (0, int))

    def test_lines(self):
        for text, row in (
            ("", 0), ("\n", 0), ("shut -\n", None), ("shut -", 0), ("shut 1\n", None), ("shut 1", 0), ("shut -\n\n", 1),
            ("shut -\nshut -\n", 1), ("shut 1\nshut 2", 1), ("shut 1\n ", 1), ("\nshut 1\n", 0), ("shut 1\nx\ny", 1),
            ("shut 9\nx", 0), ("shut\n", 0), ("shut", 0), ("shut \n", 0), ("-\n", 0), ("1\n", 0), (" shut 1\n", 0),
            ("shut 1 \n", 0), ("shut  1\n", 0), ("shut\t1\n", 0), ("shut 1\r\n", 0), ("shut - 1\n", 0), ("shut 1 -\n", 0),
            ("shut - -\n", 0), ("shut --\n", 0), ("shut -1\n", 0), ("shut +1\n", 0), ("shut 01\n", 0), ("shut 1.\n", 0),
            ("Shut 1\n", 0), ("shut a\n", 0), ("shut \u0661\n", 0), ("shut ()\n", 0), ("open 1\n", 0), ("places 3\n", 0),
            ("shut -  \n", 0), ("shut  -\n", 0), ("shut- \n", 0), ("shut1\n", 0), ("shut 3\n", 0), ("shut 9\n", 0),
            ("shut 1,2\n", 0), (FORK_TEXT, 0),
        ):
            self.assert_world(FORK, text, row)

    def test_tuples_that_are_no_world(self):
        worse = FORK._replace(most=2)
        for text, row in (
            ("shut 0 1\n", None), ("shut 1 2\n", None), ("shut 1 0\n", 0), ("shut 1 1\n", 0), ("shut 0 1 2\n", 0),
            ("shut 0 3\n", 0), ("shut 3\n", 0), ("shut 0 1 1\n", 0), ("shut 0  1\n", 0), ("shut 0 1 \n", 0), ("shut 0 -\n", 0),
        ):
            self.assert_world(worse, text, row)
        for most in range(4):
            plan = EIGHT._replace(most=most)
            for count in range(1, 9):
                text = "shut " + " ".join(map(str, range(8)[-count:])) + "\n"
                self.assert_world(plan, text, None if count <= most else 0)
            self.assert_world(plan, "shut -\n", None)
            self.assert_world(plan, "shut 8\n", 0)

    def test_all_short_texts(self):
        for plan in (FORK, FORK._replace(most=3), FORK._replace(most=0)):
            for count in range(5):
                for words in product(("0", "1", "2", "3", "-", ""), repeat=count):
                    self.assert_world(plan, " ".join(("shut", *words)) + "\n")

    def test_each_character_changed_left_out_or_added(self):
        others = [*" \n-+0123456789abs.,_", *ODD, *ODD_DIGITS]
        for text in ("shut -\n", "shut 1\n", "shut 0 2\n"):
            for at in range(len(text) + 1):
                self.assert_world(FORK._replace(most=2), text[:at] + text[at + 1:])
                for other in others:
                    self.assert_world(FORK._replace(most=2), text[:at] + other + text[at:])
                    self.assert_world(FORK._replace(most=2), text[:at] + other + text[at + 1:])


class Errors(unittest.TestCase):
    def test_no_map(self):
        for chart in (*OTHER_KINDS, 3, FORK, FORK_TEXT, ()):
            with self.assertRaises(BadMap) as caught:
                map_text(chart)
            self.assertIsNone(caught.exception.part)
            for call in (world_text, read_world):
                for other in ((), (7,), None, "shut -\n", "shut", 5):
                    with self.subTest(chart=chart), self.assertRaises(BadMap) as caught:
                        call(chart, other)
                    self.assertIsNone(caught.exception.part)

    def test_no_world(self):
        wrong = ((0, 1), (1, 0), (0, 0), (-1,), (3,), (True,), (False,), ("0",), (None,), [], [0], 0, 1, "shut -\n",
                 *OTHER_KINDS)
        for world in wrong:
            with self.subTest(world=world), self.assertRaises(BadWorld):
                world_text(Map(*FORK), world)


if __name__ == "__main__":
    unittest.main()
