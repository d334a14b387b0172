"""[8], [15], [16]: what is handed, what is owed, and which promises one play breaks."""

import unittest

from openrings.codes import Code
from openrings.errors import BadHanded, BadRing
from openrings.play import play
from openrings.rings import placed
from tests.samples import FIND, KINDS, PUT, SET, TAKE, WAYS, Strange, anything, played

# Homes: A 1, B 1, C 2. The ring is lawful in each way.
A, B, C = (1, 1, 10), (2, 1, 20), (3, 2, 30)
RING = (None, A, B, C, None, None)
# The same run over the seam: homes 4, 4, 5.
D, E, F = (1, 4, 10), (2, 4, 20), (3, 5, 30)
SEAM = (F, None, None, None, D, E)
SWAP = ["low = next at", "hand gets at", "at gets low", "low gets hand"]
DROP = ["at = first", "walk not at is empty and not at is key", "go", "end", "if at is key", "empty at", "end"]
FIND, PUT, TAKE, SET = [text.split("\n") for text in (FIND, PUT, TAKE, SET)]


class Promises(unittest.TestCase):
    def check(self, kind, lines, ring, handed, broken, ways=WAYS):
        for way in ways:
            done = played(kind, way, lines, ring, handed)
            self.assertEqual(done.broken, broken, (kind, way, lines, ring, handed, done.left))

    def test_inside_and_ends(self):
        for kind, handed in (("find", (1, 1)), ("put", (9, 1, 90)), ("set", (1, 1, 90)), ("take", 1), ("drop", (1, 1))):
            start = [] if kind == "take" else ["at = first"]
            # What was done before is not asked for any more.
            self.check(kind, [*start, "empty at", "empty hole"], RING, handed, ("inside",))
            self.check(kind, [*start, "empty at", "walk at is empty", "end"], RING, handed, ("ends",))
            self.check(kind, [*start, "empty at", "walk steps < 60", "go", "end"], RING, handed, ("ends",))

    def test_find(self):
        for handed in ((1, 1), (2, 1), (3, 2), (9, 1), (9, 2), (9, 0), (9, 10 ** 40), (-9, 5)):
            self.check("find", FIND, RING, handed, ())
        for handed in ((1, 4), (2, 4), (3, 5), (9, 4), (9, 0), (9, 1)):
            self.check("find", FIND, SEAM, handed, ())
        self.check("find", FIND, (None,), (1, 1), ())

    def test_find_lawful(self):
        self.check("find", ["at = first", "empty at"], RING, (1, 1), ("lawful",))
        self.check("find", ["at = first", "low = next at", "at gets low"], RING, (1, 1), ("lawful",))
        self.check("find", ["at = first", "empty at"], SEAM, (3, 5), ("lawful",))

    def test_find_items(self):
        self.check("find", ["at = first", "empty at"], RING, (9, 3), ("items",))
        # The items are there, but not each in its row.
        self.check("find", ["at = first", *SWAP], RING, (9, 1), ("items",))
        # Nothing is lost but a stone.
        self.check("find", ["at = first", "empty at"], ("stone", None), (9, 0), ("items",), ["stones"])
        self.check("find", ["at = first", "stone at"], RING, (9, 0), ("items",), ["stones"])
        self.check("find", ["at = first", "stone at"], ("stone", None), (9, 0), (), ["stones"])
        # Out is not asked where items is broken.
        self.check("find", ["at = first", "empty at", "out = at"], RING, (9, 3), ("items",))

    def test_find_out(self):
        self.check("find", [""], RING, (1, 1), ("out",))
        self.check("find", [""], RING, (9, 1), ())
        self.check("find", ["out = first"], RING, (1, 1), ())
        self.check("find", ["out = first"], RING, (2, 1), ("out",))
        self.check("find", ["out = first"], RING, (9, 1), ("out",))
        self.check("find", ["out = first"], RING, (9, 0), ("out",))
        self.check("find", ["at = first", "out = next at"], SEAM, (2, 4), ())
        self.check("find", ["at = first", "out = next at"], SEAM, (3, 5), ())
        # The row 0 is not none.
        self.check("find", ["out = none"], SEAM, (3, 5), ("out",))

    def test_put(self):
        for handed in ((9, 0, 90), (9, 4, 90), (9, 5, 90), (9, 10 ** 40 + 1, 90)):
            self.check("put", PUT, RING, handed, ())
        self.check("put", PUT, SEAM, (9, 5, 90), ())
        self.check("put", PUT, (None, None), (9, 1, 90), ())

    def test_put_lawful(self):
        # In the way sorted the home falls back behind C.
        for way in WAYS:
            self.check("put", PUT, RING, (9, 1, 90), ("lawful",) if way == "sorted" else (), [way])
            self.check("put", PUT, SEAM, (9, 4, 90), ("lawful",) if way == "sorted" else (), [way])
        # A key twice.
        self.check("put", ["at = first", "low = next at", "low gets at"], RING, (9, 3, 90), ("lawful",))
        self.check("put", ["at = first", "low = next at", "low gets hand", "at gets hand"], RING, (9, 3, 90), ("lawful",))
        # The walk from the home leads over an empty row.
        self.check("put", ["at = first", "low = next at", "low gets hand", "empty at"], RING, (9, 3, 90), ("lawful",))

    def test_put_items(self):
        self.check("put", [""], RING, (9, 0, 90), ("items",))
        self.check("put", ["at = first", "at gets hand"], RING, (9, 1, 90), ("items",))
        self.check("put", ["at = first", "at gets hand", "empty at"], RING, (9, 0, 90), ("items",))

    def test_put_steady(self):
        lines = ["at = first", "low = next at", "low gets at", "at gets hand"]
        self.check("put", lines, (None, A, None, None), (9, 1, 90), ("steady",))
        self.check("put", lines, ((1, 3, 10), None, None, (2, 3, 20)), (9, 3, 90), ("items",))
        self.check("put", lines, (None, None, None, (2, 3, 20)), (9, 3, 90), ("steady",))

    def test_set(self):
        for item in (A, B, C):
            for mark in (item[2], -5):
                self.check("set", SET, RING, item[:2] + (mark,), ())
        for item in (D, E, F):
            self.check("set", SET, SEAM, item[:2] + (99,), ())
        self.check("set", SET, RING, (9, 0, 90), ())
        self.check("set", SET, RING, (9, 10 ** 40, 90), ())

    def test_set_lawful(self):
        for way in WAYS:
            self.check("set", SET, RING, (9, 1, 90), ("lawful",) if way == "sorted" else (), [way])
        # PUT brings a key a second time.
        self.check("set", PUT, RING, (3, 2, 99), ("lawful",))
        self.check("set", PUT, RING, (3, 2, 30), ("lawful",))

    def test_set_items(self):
        self.check("set", [""], RING, (1, 1, 99), ("items",))
        self.check("set", [""], RING, (1, 1, 10), ())
        self.check("set", [""], RING, (9, 1, 99), ("items",))
        self.check("set", ["at = first", "at gets hand"], RING, (2, 1, 20), ("lawful",))
        self.check("set", ["at = first", "at gets hand"], RING, (9, 2, 20), ("items",))

    def test_set_steady(self):
        # By the key: another mark is no other row.
        self.check("set", ["at = first", "at gets hand"], RING, (1, 1, 99), ())
        self.check("set", ["at = first", "low = next at", "at gets low", "low gets hand"], RING, (1, 1, 99), ("steady",))
        self.check("set", ["at = first", "low = next at", "low gets hand", "stone at"], (None, A, None, None),
                   (1, 1, 99), ("steady",), ["stones"])
        self.check("set", ["at = first", "low = next at", "low gets at", "at gets hand"], (None, A, None, None),
                   (9, 1, 90), ("steady",))

    def test_take(self):
        self.check("take", ["empty at"], RING, 3, ())
        self.check("take", TAKE, RING, 3, ())
        self.check("take", TAKE, SEAM, 0, ())
        self.check("take", ["stone at"], RING, 1, (), ["stones"])
        self.check("take", ["stone at"], ((1, 0, 0), None), 0, (), ["stones"])

    def test_take_lawful(self):
        self.check("take", ["empty at"], RING, 1, ("lawful",))
        self.check("take", ["empty at"], RING, 2, ("lawful",))
        self.check("take", ["empty at"], SEAM, 5, ("lawful",))
        self.check("take", ["low = next at", "at gets low"], RING, 1, ("lawful",))
        self.check("take", ["low = next at", "hand gets low", "at gets hand", "empty low"], SEAM, 4, ("lawful",))
        # No row is empty.
        self.check("take", ["low = next at", "stone at", "stone low"], ((1, 0, 0), None), 0, ("lawful",), ["stones"])
        self.check("take", ["low = next at", "low gets at"], ((1, 0, 0), None), 0, ("lawful",))

    def test_take_items(self):
        self.check("take", [""], RING, 1, ("items",))
        self.check("take", ["low = next at", "low = next low", "empty low"], RING, 1, ("items",))
        self.check("take", ["low = next at", "empty at", "empty low"], SEAM, 5, ("items",))

    def test_take_steady(self):
        for way in WAYS:
            self.check("take", TAKE, RING, 1, ("steady",), [way])
            self.check("take", TAKE, RING, 2, ("steady",), [way])
            self.check("take", TAKE, SEAM, 4, ("steady",), [way])
            self.check("take", TAKE, SEAM, 5, ("steady",), [way])

    def test_drop(self):
        self.check("drop", DROP, RING, (3, 2), ())
        self.check("drop", DROP, SEAM, (3, 5), ())
        for handed in ((9, 1), (9, 0), (9, 10 ** 40)):
            self.check("drop", DROP, RING, handed, ())
            self.check("drop", [""], RING, handed, ())
        stone = [line.replace("empty at", "stone at") if line == "empty at" else line for line in DROP]
        for item in (A, B, C):
            self.check("drop", stone, RING, item[:2], (), ["stones"])

    def test_drop_lawful(self):
        self.check("drop", DROP, RING, (1, 1), ("lawful",))
        self.check("drop", DROP, RING, (2, 1), ("lawful",))
        self.check("drop", DROP, SEAM, (2, 4), ("lawful",))

    def test_drop_items(self):
        self.check("drop", [""], RING, (1, 1), ("items",))
        self.check("drop", ["at = first", "empty at"], RING, (9, 3), ("items",))
        self.check("drop", ["at = first", "low = next at", "empty at", "empty low"], RING, (3, 2), ("items",))

    def test_drop_steady(self):
        self.check("drop", ["at = first", *SWAP], RING, (9, 1), ("steady",))
        lines = ["at = first", "low = next at", "top = next low", "at gets low", "low gets top", "empty top"]
        self.check("drop", lines, RING, (1, 1), ("steady",))
        self.check("drop", lines, SEAM, (1, 4), ("steady",))

    def test_stones_do_not_count_as_items(self):
        ring = ("stone", (1, 0, 0), None, "stone", None)
        self.check("drop", ["at = first", "empty at"], ring, (9, 3), (), ["stones"])
        self.check("drop", ["at = first", "stone at"], ring, (9, 2), (), ["stones"])
        self.check("put", ["at = first", "at gets hand"], ring, (9, 3, 0), (), ["stones"])
        self.check("take", ["low = next at", "stone low", "empty at"], ring, 1, (), ["stones"])

    def test_large_rings(self):
        ring = placed([(key, 95, 0) for key in range(97)], 100, "sorted")
        for key in (0, 50, 96):
            self.check("find", FIND, ring, (key, 95), ())
            self.check("set", SET, ring, (key, 95, 9), ())
        self.check("put", PUT, ring, (100, 10 ** 50 + 95, 0), ())
        self.check("take", TAKE, ring, 95, ("steady",))

    def test_forty_lines(self):
        lines = FIND + ["if out is none", "low = at", "else", "low = hole", "end"] * 6 + ["top = low", "hole = top"]
        self.assertEqual(len(lines), 40)
        ring = placed([(key, 7 * key, 0) for key in range(90)], 100, "plain")
        self.check("find", lines, ring, (50, 350), (), ["plain", "stones"])


class Cases(unittest.TestCase):
    def bad_ring(self, code, ring):
        for handed in [(9, 1), (9, 1, 0), 1] + anything():
            with self.assertRaises(BadRing) as caught:
                play(code, ring, handed)
            self.assertIs(caught.exception.ring, ring)

    def bad_handed(self, code, ring, handed):
        with self.assertRaises(BadHanded, msg=handed) as caught:
            play(code, ring, handed)
        self.assertIs(caught.exception.handed, handed)

    def each_code(self):
        return [Code(kind, way, "") for kind in KINDS for way in WAYS]

    def test_no_rings(self):
        for code in self.each_code():
            for value in anything():
                self.bad_ring(code, value)
            for value in ([None, None], list(RING), (A,), (A, A, None), (None, [1, 0, 10]), ("stone",), RING[1:4],
                          (None, None, (1, True, 10)), (None, None, (1, -1, 10)), (None, None, "stones")):
                self.bad_ring(code, value)

    def test_not_lawful_in_the_way_of_the_code(self):
        lawful_in = {
            (None, (1, 0, 10), None): [],
            ((1, 1, 10), None, None): [],
            ("stone", None, None): ["stones"],
            ("stone", (1, 0, 10), None, None): ["stones"],
            ((3, 3, 30), None, None, (1, 3, 10), (2, 4, 20)): ["plain", "stones"],
            (A, B, (4, 2, 30), None, None): []}
        for code in self.each_code():
            for ring, ways in lawful_in.items():
                if code.way not in ways:
                    self.bad_ring(code, ring)
                elif code.kind in ("find", "drop"):
                    self.assertEqual(play(code, ring, (99, 0)).left, ring)

    def test_empty_rows(self):
        for code in self.each_code():
            for ring in [(None,), ((1, 0, 10), None), ((1, 0, 10), (2, 0, 20), None)]:
                if code.kind in ("put", "set"):
                    self.bad_ring(code, ring)
                elif code.kind != "take":
                    self.assertEqual(play(code, ring, (9, 0)).ended, "done")
                elif len(ring) > 1:
                    self.assertEqual(play(code, ring, 0).ended, "done")
            if code.kind in ("put", "set"):
                for ring in [(None, None), ((1, 0, 10), None, None)]:
                    self.assertEqual(play(code, ring, (9, 0, 90)).ended, "done")
        # Also where a set would fill no further row.
        self.bad_ring(Code("set", "plain", ""), ((1, 0, 10), None))
        # Stones are no empty rows.
        self.bad_ring(Code("put", "stones", ""), ("stone", "stone", None))

    def test_what_can_be_handed(self):
        for code in self.each_code():
            for handed in {"find": [(1, 1), (3, 2), (9, 0), (9, 10 ** 40), (-9, 7)],
                           "drop": [(1, 1), (3, 2), (9, 0), (9, 10 ** 40), (-9, 7)],
                           "put": [(9, 0, 0), (-9, 10 ** 40, -7), (0, 1, 10)],
                           "set": [(9, 0, 0), (-9, 10 ** 40, -7), (1, 1, 99), (3, 2, 30)],
                           "take": [1, 2, 3]}[code.kind]:
                self.assertEqual(play(code, RING, handed).ended, "done")

    def test_values_that_cannot_be_handed(self):
        for code in self.each_code():
            for value in anything():
                self.bad_handed(code, RING, value)

    def test_pairs(self):
        for kind in ("find", "drop"):
            for way in WAYS:
                code = Code(kind, way, "")
                for handed in ([9, 1], [1, 1], (9,), (9, 1, 0), (1, 1, 10), (9, -1), (9, -10 ** 40), (True, 1), (9, True),
                               (9, False), (9.0, 1), (9, 1.0), (9, None), (None, 1), ("9", 1), ([], 1), (9, []),
                               (Strange(), 1), (9, Strange()), 9, 1, {9: 1}, "91"):
                    self.bad_handed(code, RING, handed)

    def test_a_key_that_is_there_with_another_hash(self):
        for way in WAYS:
            for kind in ("find", "drop"):
                # A hash with the same home is another one, too.
                for handed in ((1, 2), (1, 7), (2, 0), (3, 1), (3, 2 + 6 * 10 ** 30)):
                    self.bad_handed(Code(kind, way, ""), RING, handed)
            for handed in ((1, 2, 10), (1, 7, 10), (3, 8, 30)):
                self.bad_handed(Code("set", way, ""), RING, handed)

    def test_items(self):
        for kind in ("put", "set"):
            for way in WAYS:
                code = Code(kind, way, "")
                for handed in ([9, 1, 0], (9, 1), (9,), (9, 1, 0, 0), (9, -1, 0), (True, 1, 0), (9, True, 0), (9, 1, True),
                               (9, 1, False), (9, 1, None), (9, None, 0), (9, 1, 0.0), ([], 1, 0), (9, [], 0), (9, 1, []),
                               (9, 1, Strange()), 9, "stone", {}):
                    self.bad_handed(code, RING, handed)

    def test_a_key_to_be_put_that_is_there(self):
        for way in WAYS:
            for handed in (A, B, C, (1, 1, 99), (1, 0, 10), (3, 8, 0)):
                self.bad_handed(Code("put", way, ""), RING, handed)

    def test_rows(self):
        for way in WAYS:
            code = Code("take", way, "")
            for handed in (0, 4, 5, 6, 7, -1, -3, -5, 10 ** 30, True, False, None, 1.0, "1", (1,), [1], A, (1, 1)):
                self.bad_handed(code, RING, handed)
            self.bad_handed(code, (None,), 0)
        # True is no row, also where the row 1 holds an item; False likewise.
        self.bad_handed(Code("take", "plain", ""), SEAM, False)
        self.bad_handed(Code("take", "stones", ""), ("stone", (1, 0, 0), None), 0)

    def test_ring_first(self):
        with self.assertRaises(BadRing):
            play(Code("take", "plain", ""), ("stone", None), 0)
        with self.assertRaises(BadRing):
            play(Code("put", "plain", ""), ((1, 0, 10), None), (1, 0, 10))


if __name__ == "__main__":
    unittest.main()
