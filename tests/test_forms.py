"""[10] to [12]: which lines there are, outside loops and in them."""

import itertools
import unittest

from tests.samples import FIND, KINDS, WAYS, text_of, told

ROWS = ("at", "hole", "low", "top")
REGISTERS = ROWS + ("out",)
WRITES = ([f"{s} gets {t}" for s in ROWS for t in ROWS]
          + [form.format(s) for s in ROWS for form in
             ("{} gets hand", "hand gets {}", "swap hand {}", "empty {}", "stone {}")])
OUTER = (WRITES + ["quit"]
         + [f"{r} = {s}" for r in REGISTERS for s in ROWS + ("first", "none")]
         + [f"{r} = next {s}" for r in REGISTERS for s in ROWS])
INNER = WRITES + ["quit", "stop", "go"] + [f"keep {r}" for r in REGISTERS if r != "at"]
NAMED = REGISTERS + ("first", "none")
PLACED = ROWS + ("first", "home", "hand")
PARTS = ([f"{s} is {what}" for s in ROWS for what in ("empty", "stone", "item", "key")]
         + [f"{x} is {y}" for x in NAMED for y in NAMED if x != y]
         + [f"{x} {sign} {y}" for x in PLACED for y in PLACED if x != y for sign in ("<", "<=")]
         + [f"from {x} {sign} from {y}" for x in PLACED for y in PLACED if x != y
            for sign in ("<", "<=")]
         + [f"steps < {k}" for k in range(1, 61)])
WORDS = ("at", "out", "first", "none", "home", "hand", "next", "is", "=", "gets", "<", "<=", "from", "not",
         "and", "empty", "item", "key", "keep", "go", "if", "else", "end", "walk", "steps", "7", "07", "")
# In a find of the way stones no word is barred, behind a quit nothing else is.
OUTSIDE = ["quit"]
IN_LOOP = ["quit", "walk at is item"]


def told_outside(line):
    return told("find", "stones", text_of(*OUTSIDE, line))


def told_in_loop(line):
    return told("find", "stones", text_of(*IN_LOOP, line, "end"))


def told_test(test):
    return {told("find", "stones", text_of("quit", f"if {test}", "end")),
            told("find", "stones", text_of("quit", f"walk {test}", "end")),
            told("find", "stones", text_of("quit", "walk at is item", f"if {test}", "end", "end"))}


def changed(line):
    """The line with a word left out, put in or exchanged."""
    words = line.split(" ")
    for k in range(len(words)):
        yield " ".join(words[:k] + words[k + 1:])
        for word in WORDS:
            yield " ".join(words[:k] + [word] + words[k + 1:])
    for k in range(len(words) + 1):
        for word in WORDS:
            yield " ".join(words[:k] + [word] + words[k:])


class Lines(unittest.TestCase):
    def test_at_their_place(self):
        for line in OUTER:
            self.assertEqual(told_outside(line), "right", line)
        for line in INNER:
            self.assertEqual(told_in_loop(line), "right", line)

    def test_at_the_wrong_place(self):
        for line in OUTER:
            if line not in INNER:
                self.assertEqual(told_in_loop(line), ("BadLine", 3), line)
        for line in INNER:
            if line not in OUTER:
                self.assertEqual(told_outside(line), ("BadLine", 2), line)

    def test_in_the_blocks_of_ifs(self):
        self.assertEqual(told("find", "plain", text_of("if at is none", "out = none", "else", "quit", "end")), "right")
        for line in ("go", "stop", "keep low"):
            self.assertEqual(told("find", "plain", text_of("if at is none", line, "end")), ("BadLine", 2))
            self.assertEqual(told("find", "plain", text_of("if at is none", "else", line, "end")), ("BadLine", 3))
            text = text_of("at = first", "walk at is item", "if at is key", "else", line, "end", "end")
            self.assertEqual(told("find", "plain", text), "right")
        text = text_of("at = first", "walk at is item", "if at is key", "low = at", "end", "end")
        self.assertEqual(told("find", "plain", text), ("BadLine", 4))

    def test_a_word_left_out_put_in_or_exchanged(self):
        for line in OUTER + INNER:
            for other in changed(line):
                if other in ("end", "else", "") or other.startswith(("if ", "walk ")):
                    continue
                right = "right" if other in OUTER else ("BadLine", 2)
                self.assertEqual(told_outside(other), right, other)
                right = "right" if other in INNER else ("BadLine", 3)
                self.assertEqual(told_in_loop(other), right, other)

    def test_other_lines(self):
        for line in ("", " ", "quit ", " quit", "at  = first", "at = first ", " at = first", "at =  first",
                     "Quit", "at= first", "at=first", "empty  at", "quit quit", "nothing", "if", "walk",
                     "if ", "walk ", "at = next  at", "at = next next at", "first = at", "hand = at",
                     "none = at", "at = out", "at = home", "at = hand", "at = empty", "out gets at",
                     "at gets out", "at gets first", "at gets none", "at gets stone", "hand gets hand",
                     "hand gets out", "swap at hand", "swap hand hand", "swap hand", "empty out",
                     "empty first", "empty hand", "stone out", "keep at", "keep first", "S gets S",
                     "R = V", "at = V", "S gets hand", "; quit", "quit\t"):
            self.assertEqual(told_outside(line), ("BadLine", 2), line)
            self.assertEqual(told_in_loop(line), ("BadLine", 3), line)

    def test_for_all_kinds_and_ways(self):
        for kind, way in itertools.product(KINDS, WAYS):
            self.assertEqual(told(kind, way, "out = low\nempty  at\nnothing"), ("BadLine", 2))


class Tests(unittest.TestCase):
    def test_parts(self):
        for part in PARTS:
            self.assertEqual(told_test(part), {"right"}, part)
            self.assertEqual(told_test("not " + part), {"right"}, part)
            self.assertEqual(told_test("at is item and not " + part + " and steps < 3"), {"right"}, part)

    def test_a_word_left_out_put_in_or_exchanged(self):
        known = set(PARTS) | {"not " + part for part in PARTS}
        for part in PARTS[::7]:
            for other in changed(part):
                right = all(one in known for one in other.split(" and "))
                found = {kind if kind == "right" else kind[0] for kind in told_test(other)}
                self.assertEqual(found, {"right" if right else "BadLine"}, other)

    def test_twice_the_same_word(self):
        for word in NAMED:
            self.assertEqual({kind[0] for kind in told_test(f"{word} is {word}")}, {"BadLine"})
        for word in PLACED:
            for sign in ("<", "<="):
                for test in (f"{word} {sign} {word}", f"from {word} {sign} from {word}"):
                    self.assertEqual({kind[0] for kind in told_test(test)}, {"BadLine"}, test)
                    self.assertEqual({kind[0] for kind in told_test("not " + test)}, {"BadLine"}, test)

    def test_numbers_of_steps(self):
        for k in range(1, 61):
            self.assertEqual(told_test(f"steps < {k}"), {"right"})
        for word in ("0", "61", "00", "01", "007", "060", "99", "100", "-1", "+1", "1.0", "1_0", "ten", "",
                     "9" * 5000, "0" * 5000 + "1", "K", "at"):
            self.assertEqual({kind[0] for kind in told_test(f"steps < {word}")}, {"BadLine"}, word)
        for test in ("steps <= 5", "5 < steps", "steps > 5", "steps is 5", "from steps < from 5", "steps<5",
                     "steps < 5 6", "steps < 5 and", "steps"):
            self.assertEqual({kind[0] for kind in told_test(test)}, {"BadLine"}, test)

    def test_other_tests(self):
        for test in ("", " ", "not", "and", "not not at is empty", "at is empty and", "and at is empty",
                     "at is empty and and at is item", "at is empty  and at is item", " at is empty",
                     "at is empty ", "at is empty or at is item", "at is empty, at is item", "at", "at is",
                     "at is not empty", "not at is not empty", "out is empty", "first is empty",
                     "hand is empty", "hand is none", "home is at", "none is empty", "none < at",
                     "out < at", "at < out", "out <= first", "from out < from at", "from at < at",
                     "at < from at", "from at < from", "from at is from low", "at > low", "at == low",
                     "at = low", "at <low", "at is S", "X < X", "true", "at is empty and not"):
            self.assertEqual({kind[0] for kind in told_test(test)}, {"BadLine"}, test)

    def test_the_line_that_is_told(self):
        self.assertEqual(told_test("at is"), {("BadLine", 2), ("BadLine", 3)})


class Blocks(unittest.TestCase):
    def check(self, bad, *lines):
        right = "right" if bad is None else ("BadLine", bad)
        self.assertEqual(told("find", "plain", text_of(*lines)), right, lines)
        # The same behind a line more.
        right = "right" if bad is None else ("BadLine", bad + 1)
        self.assertEqual(told("find", "plain", text_of("out = none", *lines)), right, lines)

    def test_blocks_without_lines(self):
        self.check(None, "if at is none", "end")
        self.check(None, "if at is none", "else", "end")
        self.check(None, "at = first", "walk at is item", "end")
        self.check(None, "at = first", "walk at is item", "if at is key", "else", "end", "end")

    def test_nested(self):
        self.check(None, "if at is none", "if low is none", "else", "end", "else", "if top is none", "end", "end")
        self.check(None, "if at is none", "at = first", "walk at is item", "end", "end")
        self.check(None, "if at is none", "else", "at = first", "walk at is item", "end", "end")
        inner = ["if at is key", "if low is none", "keep low", "else", "stop", "end", "else", "go", "end"]
        self.check(None, "at = first", "walk at is item", *inner, "end")

    def test_no_loops_in_loops(self):
        self.check(3, "at = first", "walk at is item", "walk at is item", "end", "end")
        self.check(4, "at = first", "walk at is item", "if at is key", "walk at is item", "end", "end", "end")

    def test_else_twice(self):
        self.check(3, "if at is none", "else", "else", "end")
        self.check(5, "if at is none", "else", "if low is none", "end", "else", "end")
        self.check(5, "at = first", "walk at is item", "if at is key", "else", "else", "end", "end")

    def test_else_without_its_opening(self):
        self.check(1, "else")
        self.check(3, "if at is none", "end", "else")
        self.check(3, "at = first", "walk at is item", "else", "end")
        self.check(4, "at = first", "walk at is item", "go", "else", "end")
        self.check(4, "if at is none", "at = first", "walk at is item", "else", "end", "end")

    def test_end_without_its_opening(self):
        self.check(1, "end")
        self.check(2, "out = none", "end")
        self.check(3, "if at is none", "end", "end")
        self.check(4, "if at is none", "else", "end", "end")
        self.check(4, "at = first", "walk at is item", "end", "end")

    def test_a_missing_end(self):
        self.check(2, "if at is none")
        self.check(3, "if at is none", "else")
        self.check(3, "at = first", "walk at is item")
        self.check(4, "if at is none", "if low is none", "end")
        self.check(5, "at = first", "walk at is item", "if at is key", "end")
        # A line that is none comes before.
        self.check(2, "if at is none", "nothing")

    def test_else_and_end_are_whole_lines(self):
        self.check(2, "if at is none", "else if low is none", "end", "end")
        self.check(2, "if at is none", "end if")
        self.check(2, "if at is none", "end ")

    def test_the_first_bad_line(self):
        self.check(2, "out = none", "nothing", "else", "end")


class Texts(unittest.TestCase):
    def test_empty_lines(self):
        self.assertEqual(told("find", "plain", ""), "right")
        self.assertEqual(told("find", "plain", "\n"), ("BadLine", 1))
        self.assertEqual(told("find", "plain", "out = none\n"), ("BadLine", 2))
        self.assertEqual(told("find", "plain", "\nout = none"), ("BadLine", 1))
        self.assertEqual(told("find", "plain", "out = none\n\nout = none"), ("BadLine", 2))
        self.assertEqual(told("find", "plain", " "), ("BadLine", 1))
        self.assertEqual(told("find", "plain", FIND + "\n"), ("BadLine", 9))

    def test_double_blanks_and_blanks_at_an_end(self):
        lines = FIND.split("\n")
        for k, line in enumerate(lines):
            for other in (line + " ", " " + line, line.replace(" ", "  ", 1)):
                if other != line:
                    text = text_of(*lines[:k], other, *lines[k + 1:])
                    self.assertEqual(told("find", "plain", text), ("BadLine", k + 1), other)


if __name__ == "__main__":
    unittest.main()
