"""[14], [17], [18]: what happens in a play."""

import unittest

from openrings.codes import Code
from openrings.play import Play, play
from openrings.rings import placed
from tests.samples import FIND, KINDS, PUT, TAKE, played

# Homes: A 1, B 1, C 2; the run leads from row 1 to row 3.
A, B, C = (1, 1, 10), (2, 1, 20), (3, 2, 30)
RING = (None, A, B, C, None, None)
# Homes: D and E 4, F 5; the run leads over the seam, from row 4 to row 0.
D, E, F = (4, 4, 40), (5, 4, 50), (6, 5, 60)
SEAM = (F, None, None, None, D, E)
HANDED = {"find": (7, 1), "put": (7, 1, 70), "set": (7, 1, 70), "take": 1, "drop": (7, 1)}


def ended(kind, lines, ring=RING, handed=None, way="plain"):
    return played(kind, way, lines, ring, HANDED[kind] if handed is None else handed)


class Examples(unittest.TestCase):
    def test_the_example(self):
        r = ((1, 0, 10), (2, 0, 20), (3, 1, 30), None, None)
        find, put, take = Code("find", "plain", FIND), Code("put", "plain", PUT), Code("take", "plain", TAKE)
        done = play(take, r, 0)
        self.assertEqual(
            [done.ended, done.left, done.steps, done.looks, done.broken],
            ["done", ((2, 0, 20), (3, 1, 30), None, None, None), 3, 4, ("steady",)])
        self.assertEqual(
            [play(find, r, (3, 1)).out, play(find, r, (4, 6)).out, play(put, r, (4, 6, 40)).left[3],
             play(find, r, (3, 1)).stations()],
            [2, None, (4, 6, 40), ((2, "item", False), (2, "item", False))])


class Plays(unittest.TestCase):
    def test_a_code_without_lines(self):
        for kind in KINDS:
            done = ended(kind, [""])
            self.assertEqual((done.ended, done.left, done.out, done.steps, done.looks),
                             ("done", RING, None, 0, 0))
            self.assertEqual((done.lines(), done.sides(), done.stations()), ((), (), ()))

    def test_names_and_kinds_of_values(self):
        done = play(code=Code("find", "plain", FIND), ring=SEAM, handed=(6, 5))
        self.assertIs(type(done), Play)
        for told in (done.left, done.broken, done.lines(), done.sides(), done.stations()):
            self.assertIs(type(told), tuple)
        self.assertEqual(sorted(done.lines()), list(done.lines()))
        self.assertEqual((done.out, done.steps, done.looks), (0, 1, 2))

    def test_plays_do_not_hang_on_one_another(self):
        code = Code("put", "plain", PUT)
        first, second = play(code, SEAM, (7, 4, 0)), play(code, SEAM, (7, 4, 0))
        self.assertEqual(first.left, second.left)
        self.assertEqual(SEAM, (F, None, None, None, D, E))
        self.assertEqual(first.left, (F, (7, 4, 0), None, None, D, E))

    def test_registers_at_the_start(self):
        for kind in KINDS:
            test = "at is none and hole is none and low is none and top is none and out is none"
            done = ended(kind, [f"if {test}", "end"])
            self.assertEqual(done.sides(), ((1, kind != "take"),))
        self.assertEqual(ended("take", ["out = at"], SEAM, 5).out, 5)
        self.assertEqual(ended("find", ["out = first"], SEAM, (9, 10 ** 30 + 3)).out, (10 ** 30 + 3) % 6)

    def test_the_hand_at_the_start(self):
        for kind in ("put", "set"):
            done = ended(kind, ["at = first", "at gets hand"])
            self.assertEqual((done.ended, done.left[1]), ("done", (7, 1, 70)))
        for kind in ("find", "drop"):
            self.assertEqual(ended(kind, ["at = first", "at gets hand"]).ended, "beyond")
        self.assertEqual(ended("take", ["at gets hand"]).ended, "beyond")

    def test_settings(self):
        done = ended("find", ["low = first", "hole = low", "at = hole", "out = at"])
        self.assertEqual(done.out, 1)
        self.assertIs(ended("find", ["out = first", "out = none"]).out, None)
        self.assertIs(ended("find", ["out = first", "out = low"]).out, None)
        self.assertEqual(ended("take", ["at = at", "out = at"]).out, 1)
        # What a register gets later is not seen in what was set from it.
        self.assertEqual(ended("take", ["out = at", "at = none"]).out, 1)

    def test_out_for_every_kind(self):
        for kind in KINDS:
            source = "at" if kind == "take" else "first"
            self.assertEqual(ended(kind, [f"out = {source}"]).out, 1)

    def test_keep(self):
        done = ended("find", ["at = first", "walk not at is empty", "keep hole", "keep low", "keep top",
                              "keep out", "go", "end", "if hole is low and low is top and top is out", "end"])
        self.assertEqual((done.out, done.sides()), (3, ((2, False), (2, True), (9, True))))

    def test_next(self):
        for source, rows in ((RING, [1, 2, 3, 4]), (SEAM, [4, 5, 0, 1])):
            for many in range(1, 4):
                lines = ["low = next at"] + ["low = next low"] * (many - 1) + ["out = low"]
                self.assertEqual(ended("take", lines, source, rows[0]).out, rows[many])

    def test_writes(self):
        lines = ["low = next at", "top = next low"]
        for more, rows in [
                (["at gets top"], (C, B, C)),
                (["top gets at", "at gets low"], (B, B, A)),
                (["at gets at"], (A, B, C)),
                (["empty low"], (A, None, C)),
                (["empty low", "at gets low"], (None, None, C)),
                (["hand gets low", "at gets hand"], (B, B, C)),
                (["hand gets low", "empty low", "at gets hand", "top gets hand"], (B, None, B)),
                (["hand gets at", "swap hand top", "at gets hand"], (C, B, A)),
                (["hand gets at", "hand gets low", "swap hand top"], (A, B, B))]:
            done = ended("take", lines + more)
            self.assertEqual((done.ended, done.left[1:4]), ("done", rows), more)
            self.assertEqual((done.left[0], done.left[4:]), (None, (None, None)))

    def test_stones(self):
        ring = ("stone", None, A[:1] + (2, 10), "stone", None)
        done = ended("take", ["stone at"], ring, 2, "stones")
        self.assertEqual(done.left, ("stone", None, "stone", "stone", None))
        done = ended("take", ["low = next at", "at gets low", "low gets at"], ring, 2, "stones")
        self.assertEqual(done.left, ("stone", None, "stone", "stone", None))
        done = ended("take", ["low = next at", "top = next low", "top gets low", "empty low"], ring, 2, "stones")
        self.assertEqual(done.left, ("stone", None, ring[2], None, "stone"))

    def test_a_full_ring_may_be_left(self):
        done = ended("take", ["low = next at", "low gets at"], ((1, 0, 0), None), 0)
        self.assertEqual((done.left, done.ended, done.broken), (((1, 0, 0), (1, 0, 0)), "done", ("lawful",)))

    def test_a_quit(self):
        done = ended("take", ["empty at", "quit", "at = none", "empty at"])
        self.assertEqual((done.ended, done.left[1], done.lines()), ("done", None, (1, 2)))
        done = ended("take", ["if at is item", "quit", "else", "empty at", "end", "empty at"])
        self.assertEqual((done.ended, done.left, done.lines()), ("done", RING, (1, 2)))
        done = ended("take", ["walk at is item", "if low is none", "quit", "end", "go", "end", "empty at"])
        self.assertEqual((done.ended, done.left, done.lines()), ("done", RING, (1, 2, 3)))

    def test_a_stop(self):
        done = ended("take", ["walk at is item", "if at is item", "stop", "end", "go", "end", "empty at"])
        self.assertEqual((done.ended, done.left[1], done.lines()), ("done", None, (1, 2, 3, 7)))
        self.assertEqual(done.looks, 1)

    def test_ifs(self):
        for test, line in (("at is item", 2), ("at is empty", 4)):
            done = ended("take", [f"if {test}", "out = at", "else", "out = none", "end", "low = at"])
            self.assertEqual(done.lines(), (1, line, 6))
            done = ended("take", [f"if {test}", "else", "out = none", "end", "low = at"])
            self.assertEqual(done.lines(), (1, 5) if line == 2 else (1, 3, 5))
            done = ended("take", [f"if {test}", "out = none", "end", "low = at"])
            self.assertEqual(done.lines(), (1, 2, 4) if line == 2 else (1, 4))
            done = ended("take", [f"if {test}", "else", "end"])
            self.assertEqual((done.ended, done.lines()), ("done", (1,)))

    def test_ifs_in_ifs(self):
        lines = ["if at is item", "if low is at", "out = at", "else", "if low is none", "out = none", "end", "end",
                 "else", "quit", "end", "top = at"]
        self.assertEqual(ended("take", lines).lines(), (1, 2, 5, 6, 12))
        self.assertEqual(ended("take", ["low = at"] + lines).lines(), (1, 2, 3, 4, 13))

    def test_two_loops(self):
        lines = ["walk at is item and not at is hole", "go", "end", "walk not steps < 3 and steps < 4",
                 "if steps < 4", "stop", "end", "end", "out = at"]
        done = ended("take", lines)
        self.assertEqual((done.ended, done.out, done.steps, done.looks), ("done", 4, 3, 5))
        self.assertEqual([station[0] for station in done.stations()], [1, 1, 1, 1, 4])


class Tests(unittest.TestCase):
    def side(self, test, kind="take", ring=RING, handed=None, way="plain", ahead=()):
        done = ended(kind, [*ahead, f"if {test}", "end"], ring, handed, way)
        self.assertEqual(done.ended, "done", test)
        ((line, side),) = done.sides()
        self.assertEqual(line, len(ahead) + 1)
        self.assertIs(type(side), bool)
        return side

    def test_what_a_row_holds(self):
        ring = ((1, 0, 10), "stone", None)
        for ahead, held in (([], "item"), (["low = next at", "at = low"], "stone"),
                            (["low = next at", "low = next low", "at = low"], "empty"),
                            (["empty at"], "empty"), (["stone at"], "stone")):
            for what in ("empty", "stone", "item"):
                self.assertIs(self.side(f"at is {what}", "take", ring, 0, "stones", ahead), what == held)
                self.assertIs(self.side(f"not at is {what}", "take", ring, 0, "stones", ahead), what != held)

    def test_key(self):
        for handed, side in (((1, 1), True), ((2, 1), False), ((9, 1), False)):
            self.assertIs(self.side("at is key", "find", RING, handed, ahead=["at = first"]), side)
        # An empty row and a stone hold no item with the key.
        self.assertIs(self.side("at is key", "find", RING, (9, 0), ahead=["at = first"]), False)
        self.assertIs(self.side("at is key", "drop", ("stone", None), (9, 0), "stones", ["at = first"]), False)
        self.assertIs(self.side("at is key", "set", RING, (1, 1, 99), ahead=["at = first"]), True)
        self.assertIs(self.side("at is key", "put", RING, (9, 1, 99), ahead=["at = first"]), False)
        self.assertIs(self.side("at is key", "put", RING, (9, 1, 99), ahead=["at = first", "at gets hand"]), True)
        # Keys are compared, not marks and hashes.
        self.assertIs(self.side("at is key", "find", ((-1, 0, 5), None), (-1, 0), ahead=["at = first"]), True)

    def test_is(self):
        ahead = ["at = first", "low = first", "out = none"]
        for test, side in (("at is low", True), ("at is first", True), ("first is low", True), ("at is none", False),
                           ("out is none", True), ("none is out", True), ("out is hole", True), ("hole is top", True),
                           ("at is hole", False), ("out is at", False), ("none is first", False),
                           ("first is none", False)):
            self.assertIs(self.side(test, "find", ahead=ahead), side, test)
        self.assertIs(self.side("at is low", ahead=["low = next at"]), False)

    def test_rows_are_compared_by_number(self):
        ahead = ["low = next at", "top = next low"]
        for ring, first, rows in ((RING, 1, (1, 2, 3)), (SEAM, 4, (4, 5, 0))):
            for one, name in zip(rows, ("at", "low", "top")):
                for other, second in zip(rows, ("at", "low", "top")):
                    if name != second:
                        self.assertIs(self.side(f"{name} < {second}", ring=ring, handed=first, ahead=ahead), one < other)
                        self.assertIs(self.side(f"{name} <= {second}", ring=ring, handed=first, ahead=ahead), one <= other)

    def test_rows_are_compared_by_distance(self):
        for ring, first in ((RING, 1), (SEAM, 4)):
            ahead = ["low = at", "hole = next at", "top = next hole", "at = top"]
            for one, name in enumerate(("low", "hole", "top")):
                for other, second in enumerate(("low", "hole", "top")):
                    if name != second:
                        test = f"from {name} < from {second}"
                        self.assertIs(self.side(test, ring=ring, handed=first, ahead=ahead), one > other)
                        test = f"from {name} <= from {second}"
                        self.assertIs(self.side(test, ring=ring, handed=first, ahead=ahead), one >= other)
            # From behind `at` it is nearly the whole way round.
            ahead = ["hole = next at", "top = next hole"]
            self.assertIs(self.side("from hole < from top", ring=ring, handed=first, ahead=ahead), False)
            self.assertIs(self.side("from at < from top", ring=ring, handed=first, ahead=ahead), True)

    def test_equal_rows(self):
        for ring, first in ((RING, 1), (SEAM, 4)):
            for test, side in (("at < low", False), ("at <= low", True), ("from at < from low", False),
                               ("from at <= from low", True)):
                self.assertIs(self.side(test, ring=ring, handed=first, ahead=["low = at"]), side)

    def test_first_home_and_hand(self):
        # The home of C is row 2, it lies in row 3; that of F is row 5, it lies in row 0.
        for ring, row, home_, lies in ((RING, 3, 2, 3), (SEAM, 0, 5, 0)):
            for test, side in (("home < at", home_ < lies), ("at < home", lies < home_), ("at <= home", lies <= home_),
                               ("from at < from home", True), ("from home <= from at", False)):
                self.assertIs(self.side(test, ring=ring, handed=row), side, test)
            self.assertIs(self.side("hand < at", ring=ring, handed=row, ahead=["hand gets at"]), home_ < lies)
            self.assertIs(self.side("home <= hand", ring=ring, handed=row, ahead=["hand gets at"]), True)
            self.assertIs(self.side("home < hand", ring=ring, handed=row, ahead=["hand gets at"]), False)
        for hash_ in (1, 2, 3, 10 ** 40):
            place = hash_ % 6
            for test, side in (("first <= hand", True), ("hand < first", False)):
                self.assertIs(self.side(test, "put", handed=(9, hash_, 0)), side)
            self.assertIs(self.side("low < first", "put", handed=(9, hash_, 0), ahead=["low = first"]), False)
            if 1 <= place <= 3:
                self.assertIs(self.side("hand < home", "put", handed=(9, hash_, 0), ahead=["at = first"]),
                              place < RING[place][1])

    def test_steps(self):
        walk = ["walk at is item", "go", "end"]
        for k in range(1, 6):
            self.assertIs(self.side(f"steps < {k}"), True)
            done = ended("take", walk + [f"if steps < {k}", "end"])
            self.assertEqual((done.steps, done.sides()[-1]), (3, (4, k > 3)))
            done = ended("take", [f"walk steps < {k} and at is item", "go", "end"])
            self.assertEqual(done.steps, min(k, 3))

    def test_steps_up_to_sixty(self):
        ring = placed([(key, 0, 0) for key in range(70)], 99, "sorted")
        for k in (1, 2, 59, 60):
            done = ended("take", [f"walk steps < {k}", "go", "end", "out = at"], ring, 0)
            self.assertEqual((done.ended, done.steps, done.out, done.looks), ("done", k, k, k + 1))

    def test_parts_are_asked_from_the_left(self):
        for test, side in (("at is item and at is item", True), ("at is item and at is empty", False),
                           ("at is empty and at is item", False), ("not at is empty and not low is at", True),
                           ("at is item and low is none and steps < 1", True)):
            self.assertIs(self.side(test), side, test)

    def test_later_parts_are_not_asked(self):
        for part in ("low is empty", "low < at", "from low < from at", "hand < at", "not low is item"):
            self.assertIs(self.side(f"at is empty and {part}"), False)
            self.assertIs(self.side(f"not at is item and {part}"), False)
            self.assertIs(self.side(f"at is item and at is empty and {part}"), False)
            self.assertEqual(ended("take", [f"if at is item and {part}", "end"]).ended, "beyond")
            self.assertEqual(ended("take", [f"if {part} and at is empty", "end"]).ended, "beyond")


class Beyond(unittest.TestCase):
    def check(self, kind, *lines, ring=RING, handed=None, way="plain", at_line=None):
        done = ended(kind, lines, ring, handed, way)
        line = len(lines) if at_line is None else at_line
        self.assertEqual((done.ended, done.broken), ("beyond", ("inside",)), lines)
        self.assertEqual(done.lines()[-1], line)
        self.assertEqual([side for side in done.sides() if side[0] == line], [])
        # The line that leads beyond changes nothing.
        before = ended(kind, lines[:line - 1] or [""], ring, handed, way) if at_line is None else done
        self.assertEqual((done.left, done.out, done.steps), (before.left, before.out, before.steps))
        return done

    def test_a_row_of_no_register_is_read_or_written(self):
        for line in ("low gets at", "at gets low", "low gets low", "hand gets low", "empty low"):
            self.check("take", line)
        for line in ("stone low", "low gets at", "empty top"):
            self.check("take", line, way="stones")
        self.check("put", "low gets hand")
        self.check("put", "swap hand low")
        self.check("find", "empty at")

    def test_stepped_from(self):
        for register in ("at", "low", "out"):
            self.check("find", f"{register} = next at")

    def test_tests(self):
        for part in ("low is empty", "low is stone", "low is item", "not low is empty", "low < at", "at <= low",
                     "from low < from at", "from at <= from low", "hand < at", "at < hand", "from hand <= from at"):
            way = "stones" if "stone" in part else "plain"
            self.check("take", f"if {part}", "end", way=way, at_line=1)
            self.check("take", f"walk {part}", "go", "end", way=way, at_line=1)
            self.check("take", "walk at is item", f"if {part}", "end", "go", "end", way=way, at_line=2)
        for part in ("at is key", "not at is key", "low is key", "at < first", "home < first", "from first < from low",
                     "home <= hand"):
            self.check("put", f"if {part}", "end", at_line=1)

    def test_from_asks_for_at(self):
        self.check("put", "low = first", "if from low < from first", "end", at_line=2)
        self.check("put", "if from first <= from hand", "end", at_line=1)
        done = ended("put", ["low = first", "if low < first", "end"])
        self.assertEqual((done.ended, done.sides()), ("done", ((2, False),)))

    def test_is_may_name_none(self):
        done = ended("find", ["if at is low and at is none and out is at", "end"])
        self.assertEqual((done.ended, done.sides()), ("done", ((1, True),)))

    def test_home_where_at_holds_no_item(self):
        for sign in ("<", "<="):
            for ring, way in (((None, "stone"), "stones"), ((None, None), "plain"), (("stone", None), "stones")):
                self.check("find", "at = first", f"if home {sign} at", "end", ring=ring, handed=(1, 0), way=way, at_line=2)
                self.check("find", "at = first", f"if from at {sign} from home", "end", ring=ring, handed=(1, 0),
                           way=way, at_line=2)
        self.check("take", "empty at", "if at < home", "end", at_line=2)

    def test_hand_while_it_holds_none(self):
        self.check("take", "at gets hand")
        self.check("take", "swap hand at")
        self.check("find", "if hand < first", "end", at_line=1)

    def test_hand_gets_no_item(self):
        for line in ("hand gets at", "swap hand at"):
            self.check("put", "at = first", line, ring=(None, None))
            self.check("put", "at = first", line, ring=("stone", None, None), handed=(1, 0, 0), way="stones")
            self.check("take", "hand gets at", "empty at", line)

    def test_no_step(self):
        done = self.check("take", "at = next at", "at = next at", "low = next at", "hole = none", "empty hole")
        self.assertEqual(done.steps, 2)
        done = self.check("take", "walk at is item", "go", "end", "at = none", "empty at")
        self.assertEqual((done.steps, done.looks), (3, 4))

    def test_at_the_head_of_a_loop(self):
        # Rows 2 and 3 hold items with homes before them, row 4 is empty.
        done = ended("take", ["walk home < at", "go", "end"], RING, 2)
        self.assertEqual((done.ended, done.broken, done.left), ("beyond", ("inside",), RING))
        self.assertEqual((done.steps, done.looks, done.lines(), done.sides()), (2, 3, (1, 2), ((1, True),)))
        self.assertEqual(done.stations(), ((1, "item", False), (1, "item", False), (1, "empty", None)))


class Endless(unittest.TestCase):
    def check(self, done, line, left, steps, looks):
        self.assertEqual((done.ended, done.broken), ("endless", ("ends",)))
        self.assertIn(line, done.lines())
        self.assertEqual((done.left, done.steps, done.looks), (left, steps, looks))

    def test_a_head_met_twice_without_a_step(self):
        self.check(ended("take", ["walk at is item", "end"]), 1, RING, 0, 2)
        self.check(ended("take", ["walk at is item", "keep low", "end"]), 1, RING, 0, 2)
        self.check(ended("take", ["walk low is none", "end"]), 1, RING, 0, 2)

    def test_the_test_is_not_asked_again(self):
        # It would not hold any more.
        done = ended("take", ["walk low is none", "keep low", "end"])
        self.check(done, 1, RING, 0, 2)
        self.assertEqual((done.sides(), done.lines()), (((1, True),), (1, 2)))
        done = ended("take", ["walk at is item", "empty at", "end"])
        self.check(done, 1, (None, None, B, C, None, None), 0, 2)
        # It would lead beyond.
        done = ended("take", ["walk home <= at", "empty at", "end"])
        self.assertEqual(done.ended, "endless")

    def test_behind_steps(self):
        lines = ["walk at is item", "if steps < 2", "go", "end", "end"]
        done = ended("take", lines)
        self.check(done, 1, RING, 2, 4)
        self.assertEqual(done.stations(), ((1, "item", True), (1, "item", False), (1, "item", False), (1, "item", False)))

    def test_two_loops(self):
        # The head of the second loop is not that of the first one.
        done = ended("take", ["walk at is empty", "end", "walk at is empty", "end"])
        self.assertEqual((done.ended, done.looks), ("done", 2))
        self.check(ended("take", ["walk at is empty", "end", "walk at is item", "end"]), 3, RING, 0, 3)

    def test_a_go_from_an_empty_row(self):
        for ring, row in ((RING, 1), (SEAM, 4)):
            done = ended("take", ["walk steps < 60", "keep out", "go", "end"], ring, row)
            self.check(done, 3, ring, 3, 4)
            self.assertEqual(done.out, 4 if row == 1 else 1)
            self.assertEqual(done.stations()[-1], (1, "empty", None))
        done = ended("find", ["at = first", "walk not at is item", "go", "end"], RING, (9, 0))
        self.check(done, 3, RING, 0, 1)

    def test_a_next_from_an_empty_row(self):
        for line in ("low = next at", "at = next at", "out = next at"):
            done = ended("find", ["at = first", line], RING, (9, 0))
            self.check(done, 2, RING, 0, 0)
            self.assertIs(done.out, None)
            done = ended("take", ["walk not at is empty", "go", "end", line])
            self.check(done, 4, RING, 3, 4)
        done = ended("take", ["walk not at is empty", "go", "end", "at = next at", "walk at is item", "end"], SEAM, 5)
        self.check(done, 4, SEAM, 2, 3)
        done = ended("take", ["low = next at", "out = next low"], RING, 3)
        self.check(done, 2, RING, 0, 0)

    def test_rows_as_they_were_when_the_play_began(self):
        # An emptied row may be left, a filled one may not.
        done = ended("take", ["empty at", "low = next at", "out = low"])
        self.assertEqual((done.ended, done.out), ("done", 2))
        done = ended("take", ["empty at", "walk not steps < 60", "end", "at = next at"])
        self.assertEqual((done.ended, done.steps), ("done", 1))
        done = ended("put", ["at = first", "at gets hand", "low = next at"], (None, None), (1, 0, 0))
        self.check(done, 3, ((1, 0, 0), None), 0, 0)
        done = ended("put", ["at = first", "walk steps < 3", "at gets hand", "go", "end"], (None, None), (1, 0, 0))
        self.check(done, 4, ((1, 0, 0), None), 0, 1)

    def test_stones_may_be_left(self):
        ring = ("stone", "stone", None)
        done = ended("find", ["at = first", "walk not at is empty", "go", "end"], ring, (1, 0), "stones")
        self.assertEqual((done.ended, done.steps), ("done", 2))

    def test_beyond_or_endless(self):
        # A register that is none cannot be stepped from, an empty row cannot be left.
        self.assertEqual(ended("find", ["low = next at"], RING, (9, 0)).ended, "beyond")
        self.assertEqual(ended("find", ["at = first", "low = next at"], RING, (9, 0)).ended, "endless")


class Counts(unittest.TestCase):
    def test_steps(self):
        done = ended("take", ["at = next at", "walk at is item", "go", "end"])
        self.assertEqual((done.steps, done.looks), (3, 3))
        done = ended("take", ["walk steps < 1", "go", "end", "at = next at", "walk steps < 3", "go", "end"])
        self.assertEqual((done.steps, done.looks), (3, 4))
        # Other registers make no steps.
        done = ended("take", ["low = next at", "low = next low", "at = next low", "out = at"])
        self.assertEqual((done.ended, done.steps, done.out), ("done", 0, 4))
        # Behind the last loop and without loops `at = next at` is one.
        done = ended("take", ["walk steps < 1", "go", "end", "at = next at", "at = next at"])
        self.assertEqual((done.steps, done.looks), (3, 2))
        self.assertEqual(ended("put", ["at = first", "at = next at", "at = next at"]).steps, 2)

    def test_looks(self):
        self.assertEqual(ended("find", ["at = first", "walk not at is empty", "go", "end"], RING, (9, 0)).looks, 1)
        for row in (1, 2, 3):
            self.assertEqual(ended("take", ["walk not at is empty", "go", "end"], RING, row).looks, 5 - row)
        self.assertEqual(ended("take", ["empty at"]).looks, 0)


class Told(unittest.TestCase):
    def test_lines_and_sides(self):
        done = ended("find", FIND.split("\n"), RING, (2, 1))
        self.assertEqual(done.lines(), (1, 2, 3, 4, 5, 7))
        self.assertEqual(done.sides(), ((2, True), (3, False), (3, True)))
        done = ended("find", FIND.split("\n"), RING, (9, 0))
        self.assertEqual((done.lines(), done.sides()), ((1, 2), ((2, False),)))
        done = ended("take", TAKE.split("\n"), RING, 1)
        self.assertEqual(done.lines(), (1, 2, 3, 4, 6, 7, 8, 10, 13))
        self.assertEqual(done.sides(), ((2, False), (2, True), (3, False), (3, True), (6, True)))

    def test_the_line_at_which_a_play_goes_beyond(self):
        done = ended("take", ["if low is none", "empty low", "else", "end", "empty at"])
        self.assertEqual((done.lines(), done.sides()), ((1, 2), ((1, True),)))
        done = ended("take", ["if low is none and low < at", "end"])
        self.assertEqual((done.lines(), done.sides()), ((1,), ()))

    def test_the_line_at_which_a_play_is_endless(self):
        done = ended("find", ["at = first", "walk at is empty", "go", "end"], RING, (9, 0))
        self.assertEqual((done.lines(), done.sides()), ((1, 2, 3), ((2, True),)))
        done = ended("find", ["at = first", "out = next at", "out = none"], RING, (9, 0))
        self.assertEqual(done.lines(), (1, 2))

    def test_both_sides_of_a_loop_in_order(self):
        done = ended("take", ["walk at is item", "if at < home", "end", "go", "end", "if at is item", "end"], RING, 3)
        self.assertEqual(done.sides(), ((1, False), (1, True), (2, False), (6, False)))

    def test_stations(self):
        walk = ["walk not at is empty", "go", "end"]
        self.assertEqual(ended("take", walk).stations(),
                         ((1, "item", True), (1, "item", False), (1, "item", False), (1, "empty", None)))
        self.assertEqual(ended("take", walk, SEAM, 5).stations(),
                         ((1, "item", False), (1, "item", False), (1, "empty", None)))
        ring = ("stone", (1, 1, 0), (2, 0, 0), None)
        done = ended("drop", ["at = first", *walk], ring, (2, 0), "stones")
        self.assertEqual(done.stations(),
                         ((2, "stone", None), (2, "item", True), (2, "item", False), (2, "empty", None)))

    def test_stations_are_seen_as_the_rows_are_now(self):
        done = ended("take", ["empty at", "walk not at is item", "go", "end"])
        self.assertEqual(done.stations(), ((2, "empty", None), (2, "item", False)))
        done = ended("put", ["at = first", "at gets hand", "walk at is item and steps < 1", "go", "end"], RING, (9, 7, 0))
        self.assertEqual(done.stations(), ((3, "item", True), (3, "item", False)))

    def test_the_station_of_an_endless_play(self):
        done = ended("take", ["walk at is item", "empty at", "end"])
        self.assertEqual(done.stations(), ((1, "item", True), (1, "empty", None)))
        self.assertEqual(done.looks, 2)

    def test_stations_of_two_loops(self):
        done = ended("take", ["walk at is empty", "end", "at = next at", "walk at is item", "go", "end"])
        self.assertEqual(done.stations(), ((1, "item", True), (4, "item", False), (4, "item", False), (4, "empty", None)))


if __name__ == "__main__":
    unittest.main()
