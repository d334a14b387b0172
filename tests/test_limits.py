"""[13]: which lines are refused, and which line is told."""

import unittest

from tests.samples import KINDS, WAYS, text_of, told

LOOP = ["walk at is item", "go", "end"]
OTHERS = ("find", "put", "set", "drop")


class Limits(unittest.TestCase):
    def right(self, kind, *lines, way="plain"):
        self.assertEqual(told(kind, way, text_of(*lines)), "right", (kind, lines))

    def refused(self, line, kind, *lines, way="plain"):
        self.assertEqual(told(kind, way, text_of(*lines)), ("Refused", line), (kind, lines))


class Loops(Limits):
    def test_two_and_three(self):
        for kind in OTHERS:
            self.right(kind, "at = first", *LOOP)
            self.right(kind, "at = first", *LOOP, *LOOP)
            self.refused(8, kind, "at = first", *LOOP, *LOOP, *LOOP)
            self.refused(8, kind, "at = first", *LOOP, *LOOP, *LOOP, *LOOP)
        self.right("take", *LOOP, *LOOP)
        self.refused(7, "take", *LOOP, *LOOP, *LOOP)

    def test_on_one_of_two_ways_only(self):
        self.right("take", "if at is item", *LOOP, *LOOP, "else", *LOOP, *LOOP, "end")
        self.refused(13, "take", "if at is item", *LOOP, "else", *LOOP, *LOOP, "end", *LOOP)
        self.right("take", "if at is item", *LOOP, "quit", "else", *LOOP, "end", *LOOP)
        self.refused(10, "take", "if at is item", *LOOP, *LOOP, "end", "out = none", *LOOP)

    def test_a_loop_on_no_way(self):
        self.right("take", *LOOP, *LOOP, "quit", *LOOP)
        self.right("find", "quit", *LOOP, *LOOP, *LOOP)

    def test_lines_between_the_second_and_a_third(self):
        self.refused(8, "take", *LOOP, *LOOP, "at = next at", *LOOP)
        self.refused(8, "take", *LOOP, *LOOP, "low = next low", *LOOP)


class Beginnings(Limits):
    def test_at_is_first(self):
        for kind in OTHERS:
            self.right(kind, "at = first", "hole = at", "out = first", *LOOP)
            self.right(kind, "low = first", "empty low", "at = first", *LOOP)
            self.refused(1, kind, *LOOP)
            self.refused(3, kind, "low = first", "hole = low", *LOOP)
            self.refused(3, kind, "at = first", "at = first", *LOOP)
            self.refused(4, kind, "at = first", "hole = at", "at = first", *LOOP)
            self.refused(2, kind, "hole = first", *LOOP, "at = first")

    def test_at_is_first_on_one_of_two_ways(self):
        self.right("find", "if low is none", "at = first", "else", "at = first", "end", *LOOP)
        self.refused(4, "find", "if low is none", "at = first", "end", *LOOP)
        self.refused(6, "find", "if low is none", "else", "at = first", "out = at", "end", *LOOP)
        self.right("find", "if low is none", "at = first", "else", "quit", "end", *LOOP)
        self.right("find", "at = first", "if low is none", *LOOP, "end", *LOOP)
        self.refused(3, "find", "if low is none", "out = first", *LOOP, "else", "at = first", "end")

    def test_at_is_next_at_ahead_of_the_first_loop(self):
        self.right("take", "at = next at", *LOOP)
        self.right("take", "hole = at", "at = next at", "empty hole", *LOOP)
        self.refused(3, "take", "at = next at", "at = next at", *LOOP)
        self.refused(4, "take", "at = next at", "empty at", "at = next at", *LOOP)
        for kind in OTHERS:
            self.refused(3, kind, "at = first", "at = next at", *LOOP)
            self.refused(3, kind, "at = next at", "at = first", *LOOP)
            self.refused(2, kind, "at = next at", *LOOP)

    def test_behind_the_first_of_two_loops(self):
        for kind in OTHERS:
            self.right(kind, "at = first", *LOOP, "at = next at", *LOOP)
            self.right(kind, "at = first", *LOOP, "empty at", "at = next at", "low = at", *LOOP)
            self.refused(7, kind, "at = first", *LOOP, "at = next at", "at = next at", *LOOP)
            self.refused(6, kind, "at = first", *LOOP, "at = first", *LOOP)
            self.refused(1, kind, *LOOP, "at = first", *LOOP)
        self.right("take", "at = next at", *LOOP, "at = next at", *LOOP)
        self.right("take", *LOOP, "at = next at", *LOOP)
        self.refused(6, "take", *LOOP, "at = next at", "at = next at", *LOOP)
        self.refused(8, "take", "at = next at", *LOOP, "at = next at", "at = next at", "low = at", *LOOP)

    def test_once_on_each_of_two_ways(self):
        self.right("take", "if at is item", "at = next at", "else", "at = next at", "end", *LOOP)
        self.refused(5, "take", "if at is item", "at = next at", "end", "at = next at", *LOOP)

    def test_another_setting_of_at(self):
        for source in ("hole", "at", "none", "next hole", "next low"):
            setting = f"at = {source}"
            for kind in OTHERS:
                self.refused(3, kind, "at = first", setting, *LOOP)
                self.refused(3, kind, setting, "at = first", *LOOP)
                self.refused(6, kind, "at = first", *LOOP, setting, *LOOP)
            self.refused(2, "take", setting, *LOOP)
            self.refused(3, "take", setting, "empty hole", *LOOP)
            self.refused(5, "take", *LOOP, setting, *LOOP)

    def test_settings_of_at_elsewhere(self):
        for source in ("hole", "at", "none", "first"):
            setting = f"at = {source}"
            self.right("find", "at = first", *LOOP, setting, setting)
            self.right("find", setting, setting)
            self.right("find", "if low is none", setting, "quit", "end", "at = first", *LOOP)
            self.refused(5, "find", "if low is none", setting, "end", "at = first", *LOOP)

    def test_other_registers(self):
        for register in ("hole", "low", "top", "out"):
            for source in ("at", "hole", "none", "first"):
                self.right("put", f"{register} = {source}", "at = first", f"{register} = {source}", *LOOP,
                           f"{register} = {source}", *LOOP, f"{register} = {source}")


class Nexts(Limits):
    def test_ahead_of_a_loop(self):
        for register in ("hole", "low", "top", "out"):
            for source in ("at", "hole", "low", "top"):
                line = f"{register} = next {source}"
                self.refused(3, "find", "at = first", line, *LOOP)
                self.refused(4, "find", "at = first", line, "out = none", *LOOP)
                self.refused(3, "find", line, "at = first", *LOOP)
                self.refused(6, "find", "at = first", *LOOP, line, *LOOP)
                self.refused(2, "take", line, *LOOP)
                self.refused(5, "take", *LOOP, line, *LOOP)

    def test_ahead_of_a_loop_on_one_way(self):
        self.right("take", "if at is item", "low = next at", "else", *LOOP, "end")
        self.refused(3, "take", "low = next at", "if at is item", *LOOP, "end")
        self.refused(4, "take", "low = next at", "if at is item", "else", *LOOP, "end")
        self.right("take", "low = next at", "if at is item", "quit", *LOOP, "end")

    def test_from_at_behind_the_last_loop(self):
        for register in ("at", "hole", "low", "top", "out"):
            self.right("find", "at = first", *LOOP, f"{register} = next at")
            self.right("take", "at = next at", *LOOP, *LOOP, f"{register} = next at")
            self.right("take", f"{register} = next at")

    def test_from_a_register_last_set_by_a_next(self):
        for register in ("at", "hole", "low", "top"):
            for other in ("at", "hole", "low", "top", "out"):
                self.right("put", "at = first", *LOOP, f"{register} = next at", f"{other} = next {register}")
                self.right("take", f"{register} = next at", f"{other} = next {register}")
        self.right("put", "at = first", *LOOP, "low = none", "low = next at", "low = next low", "top = next low")

    def test_from_one_that_was_set_otherwise(self):
        for register in ("hole", "low", "top"):
            self.refused(5, "put", "at = first", *LOOP, f"out = next {register}")
            self.refused(1, "take", f"out = next {register}")
            self.refused(1, "put", f"{register} = next {register}")
            for source in ("at", "none", "first", "top", "low"):
                self.refused(7, "put", "at = first", *LOOP, f"{register} = next at", f"{register} = {source}",
                             f"out = next {register}")
                self.refused(3, "put", "at = first", f"{register} = {source}", f"out = next {register}")
                self.refused(6, "put", "at = first", f"{register} = {source}", *LOOP, f"at = next {register}")
        # A setting in a loop is none behind it.
        self.refused(7, "put", "at = first", "walk at is item", "keep low", "go", "end", "out = none",
                     "out = next low")

    def test_from_at_set_otherwise_behind_the_last_loop(self):
        for source in ("first", "hole", "none", "at"):
            self.refused(6, "put", "at = first", *LOOP, f"at = {source}", "low = next at")
            self.refused(9, "put", "at = first", *LOOP, *LOOP, f"at = {source}", "low = next at")
            self.right("put", "at = first", *LOOP, "low = next at", f"at = {source}")
            self.right("put", "at = first", *LOOP, "low = next at", f"at = {source}", "at = next low",
                       "top = next at")

    def test_on_a_way_without_loops(self):
        for kind in OTHERS:
            self.right(kind, "at = first", "low = next at", "at = next at", "top = next at")
            self.right(kind, "at = none", "at = first", "low = next at")
            # What at was not set to may be stepped from, and leads beyond.
            self.right(kind, "low = next at")
            self.refused(2, kind, "low = first", "top = next low")
            self.refused(3, kind, "at = first", "at = at", "top = next at")
            self.refused(3, kind, "at = first", "at = none", "top = next at")
            self.refused(3, kind, "at = first", "low = at", "top = next low")
        self.refused(2, "take", "at = at", "low = next at")
        self.refused(2, "take", "at = none", "low = next at")

    def test_on_one_of_two_ways(self):
        self.right("put", "at = first", "if low is none", "at = next at", "end", "low = next at")
        self.refused(5, "put", "at = first", "if low is none", "at = none", "end", "low = next at")
        self.refused(6, "put", "at = first", "if low is none", "else", "at = none", "end", "low = next at")
        self.right("put", "at = first", "if low is none", "at = none", "quit", "end", "low = next at")
        # at = first is enough on the way without the loop alone.
        self.right("put", "at = first", "if low is none", *LOOP, "end", "low = next at")
        self.refused(8, "put", "at = first", "if low is none", *LOOP, "at = first", "end", "low = next at")

    def test_twelve_and_thirteen(self):
        nexts = ["low = next at"] * 12
        self.right("put", "at = first", *nexts)
        self.refused(14, "put", "at = first", *nexts, "top = next at")
        self.right("put", "at = first", *LOOP, *nexts)
        self.refused(17, "put", "at = first", *LOOP, *nexts, "at = next at")
        self.refused(14, "put", "at = first", *nexts, "top = next at", "top = next at", "stone at")
        # Those that lead to a loop are not of the twelve.
        self.right("take", "at = next at", *LOOP, "at = next at", *LOOP, *nexts)
        self.refused(21, "take", "at = next at", *LOOP, "at = next at", *LOOP, *nexts, *nexts)

    def test_thirteen_ahead_of_a_loop(self):
        # They are told at the loop, but the thirteenth one at its own line.
        nexts = ["low = next at"] * 12
        self.refused(14, "put", "at = first", *nexts, *LOOP)
        self.refused(14, "put", "at = first", *nexts, "low = next at", *LOOP)

    def test_twelve_and_thirteen_on_one_of_two_ways(self):
        nexts = ["low = next at"] * 6
        self.right("take", "if at is item", *nexts, "else", *nexts, "end", *nexts)
        self.refused(22, "take", "if at is item", *nexts, "low = next low", "else", *nexts, "end", *nexts)
        self.refused(22, "take", "if at is item", *nexts, "else", *nexts, "low = next low", "end", *nexts)
        self.right("take", "if at is item", *nexts, *nexts, "quit", "end", *nexts, *nexts)


class Writes(Limits):
    forms = ["at gets low", "at gets at", "at gets hand", "hand gets at", "swap hand at", "empty at"]

    def test_twelve_and_thirteen(self):
        twelve = self.forms * 2
        for kind in KINDS:
            self.right(kind, *twelve)
            for line in self.forms:
                self.refused(13, kind, *twelve, line)
        self.right("put", *["stone at"] * 12, way="stones")
        self.refused(13, "put", *["stone at"] * 13, way="stones")

    def test_at_any_place(self):
        six = self.forms
        self.right("take", *six, *LOOP, *six)
        self.refused(16, "take", *six, *LOOP, *six, "empty low")
        self.refused(19, "take", *six[:4], *LOOP, *six[:4], *LOOP, *six[:4], "empty low")
        self.refused(13, "take", *six, *six, "empty low", *LOOP)

    def test_those_in_loops_do_not_count(self):
        self.right("take", "walk at is item", *self.forms * 3, "go", "end", *self.forms * 2)

    def test_on_one_of_two_ways(self):
        six = self.forms
        self.right("take", "if at is item", *six, "else", *six, "end", *six)
        self.refused(22, "take", "if at is item", *six, "else", *six, "empty low", "end", *six)
        self.right("take", "if at is item", *six, "else", *six, "empty low", "quit", "end", *six)

    def test_behind_a_quit(self):
        self.right("take", *self.forms * 2, "quit", "empty at")


class Rounds(Limits):
    def loop(self, *lines):
        return ["walk at is item", *lines, "end"]

    def test_a_line_behind_a_go(self):
        for line in ("go", "stop", "quit", "keep low", "empty at", "at gets low", "hand gets at"):
            self.refused(3, "take", *self.loop("go", line))
            self.refused(4, "take", *self.loop("keep low", "go", line))
            self.right("take", *self.loop(line, "go") if line not in ("go", "stop", "quit") else self.loop(line))
        self.refused(3, "take", *self.loop("go", "if at is item", "end"))
        self.refused(3, "take", *self.loop("go", "if at is item", "empty at", "else", "stop", "end"))

    def test_in_the_sides_of_an_if(self):
        self.right("take", *self.loop("if at is item", "go", "else", "go", "end"))
        self.right("take", *self.loop("if at is item", "go", "end"))
        self.refused(5, "take", *self.loop("if at is item", "go", "end", "go"))
        self.refused(6, "take", *self.loop("if at is item", "else", "go", "end", "keep low"))
        self.refused(4, "take", *self.loop("if at is item", "go", "keep low", "end"))
        self.refused(6, "take", *self.loop("if at is item", "go", "else", "go", "go", "end"))
        self.right("take", *self.loop("if at is item", "stop", "else", "quit", "end", "go"))
        self.right("take", *self.loop("if at is item", "if low is none", "go", "end", "else", "go", "end"))
        self.refused(6, "take", *self.loop("if at is item", "if low is none", "go", "end", "go", "end"))

    def test_lines_on_no_way_through_the_loop(self):
        for line in ("stop", "quit"):
            self.right("take", *self.loop(line, "go", "go", "keep low"))
            self.right("take", *self.loop("if at is item", line, "go", "keep low", "end", "go"))
            self.right("take", *self.loop("if at is item", line, "else", line, "end", "go", "go"))

    def test_in_each_loop(self):
        late = self.loop("go", "keep low")
        self.refused(3, "take", *late, *LOOP)
        self.refused(6, "take", *LOOP, *late)
        self.refused(4, "take", "if at is item", *late, "else", *LOOP, "end")
        self.right("take", *LOOP, "quit", *late)


class Words(Limits):
    def test_stone(self):
        for kind in KINDS:
            for lines in (["stone at"], ["if at is stone", "end"], ["if at is item and not low is stone", "end"]):
                self.right(kind, *lines, way="stones")
                for way in ("plain", "sorted"):
                    self.refused(1, kind, *lines, way=way)
                    self.refused(2, kind, "out = none", *lines, way=way)

    def test_first_and_key(self):
        for lines in (["at = first"], ["out = first"], ["if first is at", "end"], ["if out is first", "end"],
                      ["if first < at", "end"], ["if hand <= first", "end"], ["if from first < from at", "end"],
                      ["if from at <= from first", "end"], ["if at is key", "end"],
                      ["if at is item and not low is key", "end"]):
            for way in WAYS:
                self.refused(1, "take", *lines, way=way)
                self.refused(2, "take", "out = none", *lines, way=way)
                for kind in OTHERS:
                    self.right(kind, *lines, way=way)

    def test_in_loops(self):
        self.refused(2, "take", "walk at is item", "if at is key", "end", "go", "end")
        self.refused(1, "take", "walk not at is key", "go", "end")
        self.refused(3, "find", "at = first", "walk at is item", "stone at", "go", "end")
        self.right("find", "at = first", "walk at is item", "stone at", "go", "end", way="stones")

    def test_on_no_way(self):
        self.refused(2, "put", "quit", "stone at")
        self.refused(3, "take", "quit", "out = none", "low = first")
        self.refused(3, "take", "quit", "walk at is item", "if at is key", "end", "end")
        self.refused(4, "put", "at = first", "walk at is item", "quit", "stone at", "end")
        self.refused(3, "put", "quit", "walk at is item", "if at is stone", "end", "end")

    def test_other_words(self):
        # These are for all kinds and ways.
        for kind in KINDS:
            for way in WAYS:
                self.right(kind, "if low < home and from hand < from at", "end", "if at is item and out is none",
                           "swap hand at", "end", way=way)


class NoWay(Limits):
    def test_lines_behind_a_quit(self):
        lines = ["at = next low", *LOOP, "at = first", *LOOP, *["empty at"] * 13, "low = next top",
                 "walk at is item", "go", "go", "end"]
        self.right("put", "quit", *lines)
        self.right("put", "if low is none", "quit", "else", "out = none", "quit", "end", *lines)
        self.refused(7, "put", "if low is none", "quit", "else", "out = none", "end", *lines)
        self.right("put", "if low is none", "quit", *lines, "end")

    def test_a_quit_in_a_loop_ends_no_way(self):
        self.refused(6, "find", "at = first", "walk at is item", "quit", "end", "at = first", "walk at is item", "end")
        self.refused(5, "find", "at = first", "walk at is item", "quit", "end", "low = next top")


class LeastLine(Limits):
    def test_the_least_is_told(self):
        # Line 2 for the missing at = first, 5 for the next of low, 6 for the stone.
        lines = ["low = at", *LOOP, "top = next low", "stone low"]
        self.refused(2, "put", *lines)
        self.refused(5, "put", "at = first", *lines[1:])
        self.refused(5, "put", "at = first", *LOOP, "stone low", "top = next low")
        # A word that is barred comes ahead of the loop that is told for a line ahead of it.
        self.refused(3, "put", "low = next at", "at = first", "stone at", *LOOP)
        self.refused(4, "put", "low = next at", "at = first", "empty at", *LOOP, "stone at")
        # The thirteenth write ahead of the loop that is told for an early line.
        self.refused(15, "put", "low = next at", "at = first", *["empty at"] * 13, *LOOP)
        # Of several ways.
        self.refused(4, "take", "if at is item", "at = none", "out = none", *LOOP, "else", "low = next top", "end")
        # In a loop.
        self.refused(3, "put", "low = first", "at = none", "walk at is item", "go", "go", "end")
        self.refused(4, "put", "at = first", "walk at is item", "go", "go", "end", "stone at")

    def test_an_early_next_is_told_at_the_loop(self):
        # Whether it may be stepped from the register is asked behind the last loop alone.
        self.refused(3, "put", "at = first", "top = next low", *LOOP)
        # On the way without the loop this line is behind the last loop.
        self.refused(1, "put", "top = next low", "if at is none", "at = first", *LOOP, "end")


if __name__ == "__main__":
    unittest.main()
