"""[15], [16], [19]: the promises that codes keep, least cases, and the ways in which texts serve."""

import unittest

from openrings.codes import Code
from openrings.errors import BadKind, BadPromise
from openrings.play import play
from openrings.verdicts import keeps, kept, least_case, serves
from tests.samples import (DROP, DROP_SORTED, DROP_STONES, FIND, FIND_EARLY, FIND_OUT, KINDS, PUT, PUT_SORTED, SERVING,
                           SET, SET_SORTED, SET_STONES, TAKE, TAKE_NUMBERS, TAKE_SORTED, TAKE_STONES, WAYS, anything,
                           text_of)
from tests.small import MOST_ROWS, PROMISES, larger_cases, slips, small_plays


def without(*names):
    return tuple(name for name in PROMISES if name not in names)


def size(code, promise):
    """The number of rows of a least case, or None."""
    case = least_case(code, promise)
    return None if case is None else len(case[0])


class Checked(unittest.TestCase):
    """What is told of a code, compared with all its plays on small rings."""

    def check(self, code):
        told = kept(code)
        self.assertEqual(told, tuple(name for name in PROMISES if name in told))
        least = {}
        for (ring, _), done in small_plays(code):
            for name in done.broken:
                least.setdefault(name, len(ring))
        for name in PROMISES:
            about = (code.kind, code.way, code.text, name)
            case = least_case(code, name)
            self.assertEqual(keeps(code, name), name in told, about)
            if name in told:
                self.assertIsNone(case, about)
                self.assertNotIn(name, least, about)
                continue
            self.assertIn(name, play(code, *case).broken, about)
            if name in least:
                self.assertEqual(len(case[0]), least[name], about)
            else:
                self.assertGreater(len(case[0]), MOST_ROWS, about)
        return told

    def check_larger(self, code, told):
        for case in larger_cases(code.kind, code.way):
            broken = play(code, *case).broken
            self.assertEqual([name for name in broken if name in told], [], (code.kind, code.way, code.text, case))


class Interface(unittest.TestCase):
    def test_examples(self):
        put, take = Code("put", "plain", PUT), Code("take", "plain", TAKE)
        self.assertEqual([kept(put), kept(take)], [("inside", "ends", "lawful", "items", "out", "steady"),
                                                   ("inside", "ends", "lawful", "items", "out")])
        bare = Code("take", "plain", "empty at")
        self.assertEqual([keeps(bare, "lawful"), len(least_case(bare, "lawful")[0]), serves("put", put.text),
                          serves("take", take.text)], [False, 3, ("plain", "stones"), ("plain", "sorted")])

    def test_arguments_by_name(self):
        take = Code("take", "plain", TAKE)
        self.assertIs(keeps(code=take, promise="steady"), False)
        self.assertIs(keeps(promise="items", code=take), True)
        self.assertEqual(kept(code=take), without("steady"))
        self.assertEqual(least_case(promise="steady", code=take), least_case(take, "steady"))
        self.assertEqual(serves(text=TAKE, kind="take"), ("plain", "sorted"))

    def test_bad_promise(self):
        code = Code("find", "plain", FIND)
        for call in (keeps, least_case):
            for value in anything() + ["Inside", "inside ", "find", ("inside",)]:
                with self.assertRaises(BadPromise) as caught:
                    call(code, value)
                self.assertIs(caught.exception.promise, value)

    def test_bad_kind(self):
        for value in anything() + ["Find", "plain"]:
            with self.assertRaises(BadKind) as caught:
                serves(value, FIND)
            self.assertIs(caught.exception.kind, value)
            # Also where the text is none.
            self.assertRaises(BadKind, serves, value, "nothing\n" * 70)

    def test_kinds_of_values(self):
        for kind, text, ways in SERVING:
            code = Code(kind, ways[0], text)
            self.assertIs(type(kept(code)), tuple)
            self.assertIs(type(serves(kind, text)), tuple)
            for name in PROMISES:
                self.assertIs(type(keeps(code, name)), bool)
        case = least_case(Code("take", "plain", TAKE), "steady")
        self.assertEqual((type(case), len(case), type(case[0])), (tuple, 2, tuple))
        self.assertEqual(case[0].count(None), 1)

    def test_the_code_does_not_change(self):
        code = Code("take", "sorted", TAKE)
        before = dict(vars(code))
        self.assertEqual(kept(code), kept(code))
        least_case(code, "steady")
        self.assertEqual(vars(code), before)


class RightCodes(Checked):
    def test_serves(self):
        for kind, text, ways in SERVING:
            self.assertEqual(serves(kind, text), ways, text)

    def test_kept_on_small_and_larger_rings(self):
        for kind, text, ways in SERVING:
            for way in ways:
                code = Code(kind, way, text)
                told = self.check(code)
                self.assertEqual([name for name in PROMISES[:5] if name not in told], [])
                self.check_larger(code, told)

    def test_in_ways_in_which_they_do_not_serve(self):
        for kind, text, ways in SERVING:
            for way in WAYS:
                if way not in ways and not (way != "stones" and "stone" in text):
                    code = Code(kind, way, text)
                    told = self.check(code)
                    self.assertNotEqual([name for name in PROMISES[:5] if name not in told], [])
                    self.check_larger(code, told)

    def test_steady(self):
        for kind, text, steady in (("find", FIND, True), ("put", PUT, True), ("put", PUT_SORTED, False), ("set", SET, True),
                                   ("take", TAKE, False), ("take", TAKE_STONES, True), ("set", SET_STONES, True),
                                   ("drop", DROP, False), ("drop", DROP_STONES, True), ("take", TAKE_NUMBERS, False)):
            code = Code(kind, "stones" if text in (TAKE_STONES, SET_STONES, DROP_STONES) else "plain", text)
            self.assertIs(keeps(code, "steady"), steady, text)
        # In one row behind the hole there must be an item that wants to come nearer.
        self.assertEqual(size(Code("take", "plain", TAKE), "steady"), 3)
        self.assertEqual(size(Code("put", "sorted", PUT_SORTED), "steady"), 4)


class Slips(Checked):
    """Codes with one slip, each against all small rings, and what they keep against larger ones."""

    def check_slips(self, kind, *texts):
        for text in texts:
            for way in WAYS:
                for at, code in enumerate(slips(kind, way, text)):
                    told = self.check(code)
                    if at % 6 == 0:
                        self.check_larger(code, told)

    def test_find(self):
        self.check_slips("find", FIND, FIND_OUT, FIND_EARLY)

    def test_put(self):
        self.check_slips("put", PUT, PUT_SORTED)

    def test_set(self):
        self.check_slips("set", SET, SET_STONES, SET_SORTED)

    def test_take(self):
        self.check_slips("take", TAKE, TAKE_STONES, TAKE_SORTED)

    def test_take_by_numbers(self):
        self.check_slips("take", TAKE_NUMBERS)

    def test_drop(self):
        self.check_slips("drop", DROP, DROP_STONES, DROP_SORTED)


class Verdicts(Checked):
    """Slips of the overview, with what is broken and how many rows that takes."""

    def broken(self, kind, way, lines, **sizes):
        code = Code(kind, way, text_of(*lines))
        self.assertEqual({name: size(code, name) for name in PROMISES if not keeps(code, name)}, sizes, lines)
        self.assertEqual(kept(code), without(*sizes))
        self.check(code)

    def test_the_walk_ends_too_early(self):
        self.broken("find", "plain", ["out = first"], out=1)
        self.broken("find", "plain", ["at = first", "if at is key", "out = at", "end"], out=3)
        self.broken("find", "stones", ["at = first", "walk at is item and not at is key", "go", "end", "if at is key",
                                       "out = at", "end"], out=3)

    def test_the_walk_never_ends(self):
        walk = ["at = first", "walk not at is key", "go", "end"]
        self.broken("find", "plain", [*walk, "out = at"], ends=1)
        self.broken("put", "plain", ["at = first", "walk not at is empty", "end", "at gets hand"], ends=3)
        self.broken("take", "plain", ["walk at is item", "if steps < 2", "go", "end", "end", "empty at"], ends=4, items=2)

    def test_beyond(self):
        self.broken("find", "stones", ["at = first", "walk not at is empty", "if from home < from first", "quit", "end",
                                       "go", "end"], inside=2, out=2)
        self.broken("take", "plain", ["empty low"], inside=2)
        self.broken("put", "sorted", ["at = first", "swap hand at"], inside=2, lawful=5, items=3)

    def test_each_way_to_go_beyond(self):
        for lines in (["low = next at"], ["low gets at"], ["at = first", "at gets low"],
                      ["at = first", "low gets at"], ["low gets hand"], ["at = first", "at gets hand"], ["hand gets top"],
                      ["empty at"], ["if low is empty", "end"], ["if low < first", "end"], ["if first < home", "end"],
                      ["at = first", "if at < hand", "end"], ["low = first", "if from first < from low", "end"],
                      ["if from at < from first", "end"], ["at = first", "swap hand at"], ["swap hand low"]):
            code = Code("find", "plain", text_of(*lines))
            self.check(code)
            self.assertEqual(size(code, "inside"), 1, lines)

    def test_ahead_of_its_home(self):
        self.broken("take", "plain", ["hole = at", "at = next at", "walk not at is empty", "hole gets at", "keep hole",
                                      "go", "end", "empty hole"], lawful=3, steady=3)
        self.broken("drop", "plain", ["at = first", "walk not at is empty and not at is key", "go", "end", "if at is key",
                                      "empty at", "end"], lawful=3)

    def test_the_seam_is_forgotten(self):
        # Right but where the run leads over the seam: homes are compared as numbers.
        lines = ["hole = at", "at = next at", "walk not at is empty", "if home <= hole", "hole gets at", "keep hole",
                 "end", "go", "end", "empty hole"]
        self.broken("take", "plain", lines, lawful=3, steady=3)
        code = Code("take", "plain", text_of(*lines))
        ring, row = least_case(code, "lawful")
        self.assertEqual(play(code, ring, row).broken, ("lawful",))
        far = [at for at, held in enumerate(ring) if held is not None and held[1] > at]
        self.assertTrue(far or row == len(ring) - 1, ring)

    def test_a_stone_is_taken_for_an_empty_row(self):
        self.broken("set", "stones", ["at = first", "walk at is item and not at is key", "go", "end", "at gets hand"],
                    lawful=4)
        self.broken("drop", "stones", ["at = first", "walk at is item and not at is key", "go", "end", "if at is key",
                                       "stone at", "end"], items=3)

    def test_an_item_is_put_in_twice(self):
        self.broken("put", "plain", ["at = first", "walk not at is empty", "go", "end", "at gets hand", "if low is none",
                                     "low = first", "low gets hand", "end"], lawful=3)
        self.broken("set", "plain", ["at = first", "walk not at is empty", "go", "end", "at gets hand"], lawful=3)

    def test_nothing_is_done(self):
        self.broken("find", "sorted", [], out=2)
        self.broken("put", "sorted", [], items=2)
        self.broken("set", "plain", [], items=2)
        self.broken("take", "stones", [], items=2)
        self.broken("drop", "plain", [], items=2)

    def test_unlike_out_of_find_nothing_is_owed_to_out(self):
        for kind in KINDS[1:]:
            start = "out = at" if kind == "take" else "out = first"
            self.assertIs(keeps(Code(kind, "plain", start), "out"), True)

    def test_no_empty_row_is_left(self):
        # The one empty row gets a stone.
        self.broken("drop", "stones", ["at = first", "walk not at is empty and not at is key", "go", "end", "stone at"],
                    lawful=1)
        # Two rows are empty where an item is put.
        self.assertIs(keeps(Code("put", "plain", PUT), "lawful"), True)

    def test_the_walk_from_the_home_leads_round_the_ring(self):
        lines = ["top = at", "low = next at", "hole = next low", "at = hole", "if at is item and from home <= from at",
                 "at = next hole", "if at is empty", "top gets hole", "empty low", "stone hole", "stone at", "quit", "end",
                 "end", "at = none", "empty at"]
        self.broken("take", "stones", lines, inside=3, ends=2, lawful=5, items=4, steady=4)
        ring, row = least_case(Code("take", "stones", text_of(*lines)), "steady")
        self.assertEqual(ring.count(None), 1)

    def test_ahead_among_stones(self):
        step = ["low = next at", "hole = next low"]
        self.broken("take", "stones", ["low = next at", "if low is item", "at gets low", "stone low", "else", "stone at",
                                       "end"], lawful=3, steady=3)
        self.broken("take", "stones", [*step, "if hole is item", "at gets hole", "empty low", "stone hole", "else",
                                       "stone at", "end"], ends=2, lawful=4, items=4, steady=4)
        self.broken("drop", "stones", ["at = first", "if at is empty", "quit", "end", *step, "if at is key and hole is item",
                                       "at gets hole", "stone hole", "quit", "end"], ends=2, lawful=4, items=3, steady=4)

    def test_rows_between_emptied_ones(self):
        walk = ["hole = at", "walk not at is empty", "if steps < 1", "empty at", "else", "if steps < 2", "keep low", "else",
                "empty at", "end", "end", "go", "end", "if low is none", "quit", "end"]
        for more in (["empty low"], ["low gets hole"], ["hole gets low", "empty low"], ["hole gets low"], []):
            for way in WAYS:
                self.check(Code("take", way, text_of(*walk, *more)))
        code = Code("take", "plain", text_of(*walk, "hole gets low", "empty low"))
        self.assertEqual({name: size(code, name) for name in PROMISES},
                         {"inside": None, "ends": None, "lawful": 3, "items": 4, "out": None, "steady": 3})

    def test_the_first_row_that_was_not_met(self):
        # What breaks the promise lies behind all that the play comes to.
        code = Code("take", "plain", "empty at")
        ring, row = least_case(code, "lawful")
        self.assertEqual(ring[(row + 1) % 3][1] % 3, row)
        code = Code("drop", "plain", text_of("at = first", "if at is key", "quit", "end", "hole = at"))
        self.assertEqual(size(code, "items"), 2)
        self.broken("set", "plain", ["at = first", "if at is empty", "at gets hand", "end"], items=3)

    def test_homes_fall_back(self):
        self.broken("put", "sorted", ["at = first", "walk not at is empty", "go", "end", "at gets hand"], lawful=4)
        self.broken("set", "sorted", ["at = first", "walk not at is empty and not at is key", "go", "end", "at gets hand"],
                    lawful=4)


class Steps(Checked):
    """`steps < K` leads to least cases of many rows."""

    def test_find(self):
        for count in (1, 2, 7, 33, 60):
            code = Code("find", "plain", text_of("at = first", f"walk not at is empty and steps < {count}", "if at is key",
                                                 "keep out", "stop", "end", "go", "end"))
            self.assertEqual(kept(code), without("out"))
            ring, handed = least_case(code, "out")
            self.assertEqual(len(ring), count + 2)
            self.assertEqual(play(code, ring, handed).broken, ("out",))

    def test_put(self):
        for way in WAYS:
            for count in (1, 5, 60):
                code = Code("put", way, text_of("at = first", f"walk not at is empty and steps < {count}", "go", "end",
                                                "at gets hand"))
                self.assertEqual(size(code, "items"), count + 3, way)
                self.assertEqual(keeps(code, "lawful"), way != "sorted")

    def test_take(self):
        for way, count in (("plain", 1), ("plain", 20), ("sorted", 20), ("plain", 60)):
            text = TAKE_SORTED if way == "sorted" else text_of(
                "hole = at", "at = next at", "walk not at is empty", "if from hole <= from home", "hole gets at",
                "keep hole", "end", "go", "end", "empty hole")
            code = Code("take", way, text.replace("at is empty", f"at is empty and steps < {count}"))
            self.assertEqual(kept(code), without("lawful", "steady") if count > 1 else without("lawful"), count)
            self.assertEqual(size(code, "lawful"), count + 2)

    def test_beyond_and_endless(self):
        walk = ["walk at is item and steps < 40", "go", "end"]
        code = Code("take", "plain", text_of(*walk, "if not steps < 40", "empty low", "end"))
        self.assertEqual((size(code, "inside"), size(code, "ends")), (41, None))
        code = Code("take", "plain", text_of(*walk, "if not steps < 40", "low = next at", "hole = next low", "end"))
        self.assertEqual((size(code, "inside"), size(code, "ends")), (None, 41))
        code = Code("take", "plain", text_of("walk at is item", "if steps < 40", "go", "end", "end"))
        self.assertEqual((size(code, "inside"), size(code, "ends")), (None, 42))

    def test_two_limits(self):
        code = Code("find", "stones", text_of("at = first", "walk not at is empty and steps < 9", "if at is key", "keep out",
                                              "quit", "end", "go", "end", "at = next at",
                                              "walk not at is empty and steps < 20", "if at is key", "keep out", "quit",
                                              "end", "go", "end"))
        # The row ten steps on is passed over, if the first walk comes that far.
        self.assertEqual(size(code, "ends"), 1)
        self.assertEqual(size(code, "out"), 11)

    def test_homes_in_a_stretch_of_a_known_length(self):
        # The homes come nearer and nearer to the row where the play began, from the row `count` on.
        for count, bound, size_told in ((5, 10, 11), (5, 11, None), (12, 24, 25), (12, 25, None)):
            text = text_of("hole = at", f"walk at is item and steps < {count}", "go", "end", "low = at", "if not low is item",
                           "quit", "end", "hand gets low", "walk at is item", "if not at is low",
                           "if from home <= from hand", "quit", "end", "if from hole <= from home",
                           "quit", "end", "hand gets at", "end", "go", "end", f"if steps < {bound}", "else", "empty top",
                           "end")
            self.assertEqual(size(Code("take", "plain", text), "inside"), size_told)


class TextsThatServe(unittest.TestCase):
    def test_in_no_way(self):
        self.assertEqual(serves("find", "at = first\nout = at"), ())
        self.assertEqual(serves("put", PUT + "\nat gets hand\nlow = first\nlow gets hand"), ())
        self.assertEqual(serves("take", "empty at"), ())

    def test_no_code_in_any_way(self):
        for text in ("no line", "walk at is item", "go", "\n" * 60, "if at is none\n" * 8 + "end\n" * 7 + "end",
                     "at = first\nat = first\nwalk at is item\nend"):
            for kind in KINDS:
                self.assertEqual(serves(kind, text), (), text)
        self.assertEqual(serves("take", "at = first"), ())
        self.assertEqual(serves("take", TAKE.replace("at is hole", "at is key")), ())

    def test_a_code_in_some_ways(self):
        self.assertEqual(serves("take", "stone at"), ("stones",))
        self.assertEqual(serves("drop", DROP_STONES), ("stones",))
        self.assertEqual(serves("put", "at = first\nwalk not at is empty\nif at is stone\nstop\nend\ngo\nend\nat gets hand"),
                         ("stones",))

    def test_steady_is_not_asked_for(self):
        self.assertEqual(serves("take", TAKE_NUMBERS), ("plain", "sorted"))
        self.assertIs(keeps(Code("take", "plain", TAKE_NUMBERS), "steady"), False)

    def test_for_other_kinds(self):
        self.assertEqual(serves("set", PUT), ())
        self.assertEqual(serves("put", SET), ("plain", "stones"))
        self.assertEqual(serves("put", SET_SORTED), ("plain", "sorted"))
        self.assertEqual(serves("drop", FIND), ())
        self.assertEqual(serves("find", TAKE_SORTED), ())


if __name__ == "__main__":
    unittest.main()
