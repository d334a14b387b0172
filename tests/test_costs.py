"""[20]: how often heads of loops are met at most."""

import unittest

from openrings.codes import Code
from openrings.costs import most
from openrings.errors import BadSize
from openrings.play import play
from tests.samples import (DROP, FIND, FIND_EARLY, KINDS, PUT, PUT_SORTED, SERVING, SET_SORTED, TAKE, TAKE_SORTED, WAYS,
                           anything, text_of)
from tests.small import larger_cases, slips, small_plays

FAR = 10 ** 50
WALK = ("walk not at is empty", "go", "end")


def steps_to_end(kind, case):
    """How many steps lead from the row where a play begins to the next empty row."""
    ring, handed = case
    row = handed if kind == "take" else handed[1]
    steps = 0
    while ring[(row + steps) % len(ring)] is not None:
        steps += 1
    return steps


def greatest_in(code, plays):
    """The greatest looks in plays, by the steps to the next empty row."""
    found = {}
    for case, done in plays:
        steps = steps_to_end(code.kind, case)
        found[steps] = max(found.get(steps, 0), done.looks)
    return found


def most_of(code, *sizes):
    return [most(code, n) for n in sizes]


class Interface(unittest.TestCase):
    def test_examples(self):
        find, put = Code("find", "plain", FIND), Code("put", "plain", PUT)
        self.assertEqual([most(find, 4), most(put, 0), most(put, 10 ** 50),
                          most(Code("find", "plain", "at = first\nwalk not at is key\ngo\nend"), 3)],
                         [5, 1, 100000000000000000000000000000000000000000000000001, 4])

    def test_arguments_by_name(self):
        code = Code("find", "plain", FIND)
        self.assertEqual(most(n=4, code=code), 5)

    def test_bad_size(self):
        for kind in KINDS:
            code = Code(kind, "plain", text_of(*([] if kind == "take" else ["at = first"]), *WALK))
            for value in anything() + [-1, -FAR, "1", (1,), 1.0, 2.5] + ([0] if kind == "take" else []):
                if isinstance(value, int) and not isinstance(value, bool) and value > 0:
                    continue
                with self.assertRaises(BadSize) as caught:
                    most(code, value)
                self.assertIs(caught.exception.n, value)
        self.assertEqual(most(Code("put", "plain", PUT), 0), 1)
        self.assertEqual(most(Code("take", "plain", TAKE), 1), 2)


class Most(unittest.TestCase):
    def check(self, code):
        """Compares what is told with the plays on small rings and on larger ones."""
        about = (code.kind, code.way, code.text)
        least = 1 if code.kind == "take" else 0
        told = [most(code, n) for n in range(least, 6)]
        self.assertEqual(told, sorted(told), about)
        small = greatest_in(code, small_plays(code))
        larger = greatest_in(code, [(case, play(code, *case)) for case in larger_cases(code.kind, code.way)])
        for found in (small, larger):
            for steps, looks in found.items():
                if steps < least + len(told):
                    self.assertGreaterEqual(told[steps - least], looks, (about, steps))
        return told, small

    def test_right_codes(self):
        for kind, text, _ in SERVING:
            for way in WAYS:
                if way == "stones" or "stone" not in text:
                    code = Code(kind, way, text)
                    told, small = self.check(code)
                    # On rings of three rows there are all plays with one step; rows before may be asked for.
                    self.assertGreaterEqual(told[0], small.get(1 if kind == "take" else 0, 0))
                    if "walk" in text:
                        self.assertEqual(most(code, FAR) - FAR, told[-1] - 5)

    def test_codes_with_slips(self):
        for kind, text in (("find", FIND_EARLY), ("put", PUT_SORTED), ("take", TAKE), ("set", SET_SORTED),
                           ("drop", DROP), ("take", TAKE_SORTED)):
            for way in WAYS:
                for at, code in enumerate(slips(kind, way, text)):
                    if at % 3 == 0:
                        self.check(code)

    def test_without_loops(self):
        for kind in KINDS:
            for text in ("", "quit", "hole = at", "if low is none\nend"):
                self.assertEqual(most_of(Code(kind, "stones", text), 1, 7, FAR), [0, 0, 0])
        self.assertEqual(most_of(Code("find", "plain", "at = first\nlow = next at\nlow = next low"), 0, 5, FAR), [0, 0, 0])

    def test_walks_to_the_end(self):
        for kind in KINDS:
            start = [] if kind == "take" else ["at = first"]
            for way in WAYS:
                code = Code(kind, way, text_of(*start, *WALK))
                self.assertEqual(most_of(code, 1, 2, 3, 50, FAR), [2, 3, 4, 51, FAR + 1])
                code = Code(kind, way, text_of(*start, "walk low is none", "go", "end"))
                # The last step leads away from the empty row.
                self.assertEqual(most_of(code, 1, 2, 50, FAR), [2, 3, 51, FAR + 1])

    def test_a_step_ahead_of_the_loop_has_no_look(self):
        code = Code("take", "plain", text_of("at = next at", *WALK))
        self.assertEqual(most_of(code, 1, 2, 3, FAR), [1, 2, 3, FAR])

    def test_two_loops(self):
        first = ["at = first", "walk not at is empty and not at is key", "go", "end"]
        code = Code("find", "plain", text_of(*first, *WALK))
        self.assertEqual(most_of(code, 0, 1, 2, FAR), [2, 3, 4, FAR + 2])
        code = Code("find", "plain", text_of(*first, "at = next at", *WALK))
        self.assertEqual(most_of(code, 0, 1, 2, FAR), [1, 2, 3, FAR + 1])
        code = Code("find", "plain", text_of(*first, "if at is empty", "quit", "end", *WALK))
        self.assertEqual(most_of(code, 0, 1, 2, FAR), [1, 3, 4, FAR + 2])

    def test_a_head_that_is_met_twice(self):
        code = Code("take", "plain", text_of("walk at is item", "end"))
        self.assertEqual(most_of(code, 1, 2, FAR), [2, 2, 2])
        code = Code("take", "plain", text_of("walk not at is empty", "if steps < 3", "go", "end", "end"))
        self.assertEqual(most_of(code, 1, 2, 3, 4, 5, FAR), [2, 3, 4, 5, 5, 5])
        code = Code("find", "stones", text_of("at = first", "walk not at is key", "if not at is stone", "go", "end", "end"))
        self.assertEqual(most_of(code, 0, 1, 2, FAR), [1, 2, 3, FAR + 1])

    def test_limits_of_steps(self):
        for count in (1, 7, 60):
            code = Code("put", "plain", text_of("at = first", f"walk not at is empty and steps < {count}", "go", "end",
                                                "at gets hand"))
            self.assertEqual(most_of(code, 0, count - 1, count, count + 1, FAR), [1, count, count + 1, count + 1, count + 1])

    def test_the_second_stone_ends_the_walk(self):
        code = Code("take", "stones", text_of("walk not at is empty", "if low is none", "keep low", "go", "else",
                                              "if low is stone", "stop", "end", "go", "end", "end"))
        self.assertEqual(most_of(code, 1, 2, 3, FAR), [2, 3, 4, FAR + 1])
        code = Code("take", "plain", text_of("at = next at", "walk not at is empty", "if low is none", "keep low", "go",
                                             "else", "stop", "end", "end"))
        self.assertEqual(most_of(code, 1, 2, 3, 4, FAR), [1, 2, 2, 2, 2])

    def test_each_second_number_is_greater(self):
        # Behind an even number of steps the registers differ, and another head is met.
        code = Code("take", "plain", text_of("hole = at", "low = at", "walk not at is empty", "if low is hole", "keep low",
                                             "else", "keep hole", "keep low", "end", "go", "end", "if low is hole", "quit",
                                             "end", "walk at is item", "go", "end"))
        self.check(code)
        self.assertEqual(most_of(code, *range(1, 9)), [2, 4, 4, 6, 6, 8, 8, 10])
        self.assertEqual(most_of(code, FAR, FAR + 1, FAR + 2), [FAR + 2, FAR + 2, FAR + 4])

    def test_homes_in_a_stretch_of_a_known_length(self):
        text = text_of("hole = at", "walk at is item and steps < 5", "go", "end", "low = at", "if not low is item", "quit",
                       "end", "hand gets low", "walk at is item", "if not at is low", "if from home <= from hand", "quit",
                       "end", "if from hole <= from home", "quit", "end", "hand gets at", "end", "go", "end")
        # The second loop leads at most five rows on, as homes come nearer and nearer to the first row.
        self.assertEqual(most_of(Code("take", "plain", text), 4, 5, 6, 9, 10, 11, 12, FAR), [5, 6, 8, 11, 12, 12, 12, 12])

    def test_rows_before_do_not_count(self):
        # The homes that are looked for lie before the row where the play begins.
        code = Code("take", "plain", text_of("hand gets at", "hole = at", "walk at is item and from hole < from home",
                                             "hand gets at", "go", "end"))
        self.assertEqual(most_of(code, 1, 2, 3, 40, FAR), [2, 3, 4, 41, FAR + 1])


if __name__ == "__main__":
    unittest.main()
