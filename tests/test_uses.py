"""[17], [18]: used lines, used sides of tests, and stations, against the plays on all small rings."""

import unittest

from openrings.codes import Code
from openrings.errors import NoLine
from openrings.play import play
from openrings.uses import (all_stations, case_for_line, case_for_side, case_for_station, used_lines, used_sides)
from tests.samples import (DROP, FIND, FIND_EARLY, KINDS, PUT, PUT_SORTED, SERVING, SET_SORTED, SET_STONES, TAKE,
                           TAKE_NUMBERS, TAKE_STONES, WAYS, Strange, anything, as_lines, text_of)
from tests.small import slips, small_plays


def every_station(code):
    """All that may look like a station of a code."""
    heads = [number for number in range(1, len(code) + 1) if code[number].startswith("walk ")]
    return [(head, *rest) for head in heads
            for rest in (("empty", None), ("stone", None), ("item", True), ("item", False))]


class Checked(unittest.TestCase):
    def check(self, code, is_asked_one_by_one=False):
        """Compares what is told with the plays on small rings; returns it."""
        about = (code.kind, code.way, code.text)
        lines, sides, stations = used_lines(code), used_sides(code), all_stations(code)
        self.assertEqual(lines, tuple(sorted(set(lines))), about)
        self.assertEqual(sides, tuple(sorted(set(sides))), about)
        self.assertEqual(len(stations), len(set(stations)), about)
        self.assertEqual({line for line, _ in sides} - set(lines), set(), about)
        self.assertEqual(set(stations) - set(every_station(code)), set(), about)
        for case, done in small_plays(code):
            self.assertEqual(set(done.lines()) - set(lines), set(), (about, case))
            self.assertEqual(set(done.sides()) - set(sides), set(), (about, case))
            self.assertEqual(set(done.stations()) - set(stations), set(), (about, case))
        if is_asked_one_by_one:
            self.check_cases(code, lines, sides, stations)
        return lines, sides, stations

    def check_cases(self, code, lines, sides, stations):
        """Asks for a case for each line, side and station."""
        about = (code.kind, code.way, code.text)
        for line in range(1, len(code) + 1):
            case = case_for_line(code, line)
            self.assertEqual(case is not None, line in lines, (about, line))
            if case is not None:
                self.assertIn(line, play(code, *case).lines(), (about, line))
            for side in (True, False):
                case = case_for_side(code, line, side)
                self.assertEqual(case is not None, (line, side) in sides, (about, line, side))
                if case is not None:
                    self.assertIn((line, side), play(code, *case).sides(), (about, line, side))
        for station in every_station(code):
            case = case_for_station(code, station)
            self.assertEqual(case is not None, station in stations, (about, station))
            if case is not None:
                self.assertIn(station, play(code, *case).stations(), (about, station))


class Interface(unittest.TestCase):
    def test_examples(self):
        find, take = Code("find", "plain", FIND), Code("take", "plain", TAKE)
        self.assertEqual([used_lines(find), used_sides(find), len(all_stations(find)),
                          used_lines(take) == (1, 2, 3, 4, 6, 7, 8, 10, 13)],
                         [(1, 2, 3, 4, 5, 7), ((2, False), (2, True), (3, False), (3, True)), 3, True])

    def test_arguments_by_name(self):
        code = Code("find", "plain", FIND)
        self.assertEqual(used_lines(code=code), used_lines(code))
        self.assertEqual(used_sides(code=code), used_sides(code))
        self.assertEqual(all_stations(code=code), all_stations(code))
        self.assertEqual(case_for_line(line=4, code=code), case_for_line(code, 4))
        self.assertEqual(case_for_side(side=True, line=3, code=code), case_for_side(code, 3, True))
        station = (2, "empty", None)
        self.assertEqual(case_for_station(station=station, code=code), case_for_station(code, station))

    def test_no_line(self):
        code = Code("find", "plain", FIND)
        for value in anything() + [0, -1, 9, 10 ** 30, "1", (1,), 1.0]:
            if value is Strange:
                continue
            for call in (lambda: case_for_line(code, value), lambda: case_for_side(code, value, True),
                         lambda: case_for_side(code, value, False)):
                with self.assertRaises(NoLine) as caught:
                    call()
                self.assertIs(caught.exception.line, value)
        for text in ("", "quit"):
            code = Code("take", "plain", text)
            self.assertRaises(NoLine, case_for_line, code, len(code) + 1)
            self.assertRaises(NoLine, case_for_line, code, 0)

    def test_no_case(self):
        code = Code("find", "plain", FIND)
        # Lines without a test, and lines that are not played.
        for line in (1, 4, 5, 6, 7, 8):
            self.assertIsNone(case_for_side(code, line, True))
            self.assertIsNone(case_for_side(code, line, False))
        self.assertIsNone(case_for_line(code, 6))
        self.assertIsNone(case_for_line(code, 8))
        for station in ((1, "empty", None), (2, "stone", None), (2, "item", None), (3, "item", True), (2, "empty", False),
                        (9, "item", True), (2,), ()):
            self.assertIsNone(case_for_station(code, station), station)

    def test_kinds_of_values(self):
        code = Code("find", "stones", FIND)
        self.assertIs(type(used_lines(code)), tuple)
        self.assertIs(type(used_sides(code)), tuple)
        stations = all_stations(code)
        self.assertIs(type(stations), list)
        self.assertEqual({type(station) for station in stations}, {tuple})
        stations.clear()
        self.assertEqual(len(all_stations(code)), 4)
        for case in (case_for_line(code, 1), case_for_side(code, 2, True), case_for_station(code, (2, "stone", None))):
            self.assertEqual((type(case), type(case[0]), len(case)), (tuple, tuple, 2))

    def test_a_code_without_lines(self):
        for kind in KINDS:
            code = Code(kind, "plain", "")
            self.assertEqual((used_lines(code), used_sides(code), all_stations(code)), ((), (), []))


class Uses(Checked):
    def test_right_codes(self):
        for kind, text, _ in SERVING:
            for way in WAYS:
                if way == "stones" or "stone" not in text:
                    self.check(Code(kind, way, text), True)

    def test_codes_with_slips(self):
        for kind, text in (("find", FIND), ("find", FIND_EARLY), ("put", PUT_SORTED), ("take", TAKE), ("set", SET_STONES),
                           ("drop", DROP)):
            for way in WAYS:
                for at, code in enumerate(slips(kind, way, text)):
                    self.check(code, at % 5 == 0)

    def test_slips_with_numbers_and_two_loops(self):
        for kind, text in (("take", TAKE_NUMBERS), ("set", SET_SORTED)):
            for way in WAYS:
                for at, code in enumerate(slips(kind, way, text)):
                    if at % 3 == 0:
                        self.check(code)

    def told(self, kind, way, *lines):
        return self.check(Code(kind, way, text_of(*lines)), True)

    def test_lines_that_are_not_used(self):
        # In the way sorted no home falls back, in the way plain it may.
        text = ("low = at", "hand gets at", "at = next at", "walk at is item", "if from home <= from hand", "else",
                "keep low", "end", "hand gets at", "go", "end")
        self.assertNotIn(7, self.told("take", "sorted", *text)[0])
        self.assertIn(7, self.told("take", "plain", *text)[0])
        # The home of an item comes never behind it.
        lines, sides, _ = self.told("take", "plain", "if from home < from at", "empty at", "end")
        self.assertEqual((lines, sides), ((1,), ((1, False),)))
        # By numbers it may.
        self.assertEqual(self.told("take", "plain", "if at < home", "empty at", "end")[0], (1, 2))
        # No item with the handed key is in the ring.
        self.assertEqual(self.told("put", "plain", "at = first", "if at is key", "empty at", "end")[1], ((2, False),))
        # The handed key is met once.
        lines = self.told("find", "plain", "at = first", "walk not at is empty", "if at is key", "if low is none",
                          "keep low", "else", "keep hole", "end", "end", "go", "end")[0]
        self.assertEqual(lines, (1, 2, 3, 4, 5, 10))

    def test_the_line_at_which_a_play_ends(self):
        self.assertEqual(self.told("take", "plain", "empty low", "empty at")[0], (1,))
        self.assertEqual(self.told("find", "plain", "at = first", "walk at is item", "end", "quit")[:2],
                         ((1, 2, 4), ((2, False), (2, True))))
        self.assertEqual(self.told("take", "stones", "if low is stone", "end")[:2], ((1,), ()))

    def test_else_and_end_are_never_used(self):
        lines = self.told("take", "plain", "if at is item", "else", "end", "quit")[0]
        self.assertEqual(lines, (1, 4))

    def test_steps(self):
        for count in (1, 3, 20, 60):
            walk = ["walk not at is empty", "if not steps < %d" % count, "stop", "end", "go", "end"]
            lines = used_lines(Code("take", "plain", text_of(*walk, "if at is empty", "empty at", "end")))
            self.assertEqual(lines, (1, 2, 3, 5, 7, 8))
            ring, _ = case_for_line(Code("take", "plain", text_of(*walk)), 3)
            self.assertEqual(len(ring), count + 2)
        lines = used_lines(Code("take", "plain", text_of("walk steps < 7", "go", "end", "if steps < 8", "quit", "end",
                                                         "empty at")))
        self.assertEqual(lines, (1, 2, 4, 5))

    def test_rows_between_spots_that_are_counted(self):
        # Between the row where the play begins and the one two steps on there lies one row.
        for wanted, bound in ((True, 3), (False, 2)):
            text = text_of("hole = at", "walk at is item and steps < %d" % bound, "go", "end", "if not at is item", "quit",
                           "end", "low = at", "at = next at", "walk at is item",
                           "if from home < from hole and from low < from home", "if top is none", "keep top", "hand gets at",
                           "else", "if from home < from hand", "keep out", "end", "end", "end", "go", "end")
            lines = self.told("take", "plain", *as_lines(text))[0]
            self.assertEqual(17 in lines, wanted, bound)

    def test_stations(self):
        for way in WAYS:
            stone = [(2, "stone", None)] if way == "stones" else []
            found = self.told("find", way, "at = first", "walk not at is empty", "go", "end")[2]
            self.assertEqual(set(found), {(2, "empty", None), (2, "item", True), (2, "item", False), *stone})
            found = self.told("take", way, "walk not at is item", "go", "end")[2]
            self.assertEqual(set(found), {(1, "item", True), (1, "item", False)})

    def test_stations_of_what_was_written(self):
        found = self.told("put", "plain", "at = first", "at gets hand", "walk at is item and steps < 1", "end")[2]
        self.assertEqual(found, [(3, "item", True)])
        found = self.told("take", "stones", "stone at", "walk not at is stone", "end")[2]
        self.assertEqual(found, [(2, "stone", None)])
        # An item that was brought a row further on lies behind its home.
        found = self.told("take", "plain", "hand gets at", "at = next at", "walk at is item", "swap hand at", "stop", "end",
                          "walk at is item", "quit", "end")[2]
        self.assertEqual(set(found), {(3, "empty", None), (3, "item", True), (3, "item", False), (7, "empty", None),
                                      (7, "item", False)})

    def test_the_station_of_an_endless_play(self):
        found = self.told("take", "plain", "walk at is item", "empty at", "end")[2]
        self.assertEqual(set(found), {(1, "item", True), (1, "item", False), (1, "empty", None)})

    def test_taken_by_a_code_for_stones(self):
        self.assertEqual(self.told("take", "stones", *as_lines(TAKE_STONES)),
                         ((1, 2, 3, 5), ((2, False), (2, True)), []))

    def test_put(self):
        self.assertEqual(self.told("put", "plain", *as_lines(PUT))[:2], ((1, 2, 3, 5), ((2, False), (2, True))))


if __name__ == "__main__":
    unittest.main()
