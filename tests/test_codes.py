import unittest

from openrings.codes import Code
from openrings.errors import BadKind, BadWay, Refused, TooMany
from tests.samples import FIND, KINDS, PUT, TAKE, WAYS, anything, text_of, told


class Examples(unittest.TestCase):
    def test_the_example(self):
        find = Code("find", "plain", FIND)
        put = Code("put", "plain", PUT)
        take = Code("take", "plain", TAKE)
        self.assertEqual([len(find), put[5], len(take), put == put.in_way("plain")],
                         [8, "at gets hand", 13, True])


class Codes(unittest.TestCase):
    def test_attributes(self):
        for kind in KINDS:
            for way in WAYS:
                code = Code(kind=kind, way=way, text="quit\nempty at")
                self.assertEqual((code.kind, code.way, code.text), (kind, way, "quit\nempty at"))

    def test_lines(self):
        code = Code("find", "plain", FIND)
        self.assertEqual([code[k] for k in range(1, 9)], FIND.split("\n"))
        self.assertEqual(len(code), 8)

    def test_a_text_without_signs(self):
        for kind in KINDS:
            code = Code(kind, "sorted", "")
            self.assertEqual((len(code), code.text), (0, ""))

    def test_equal(self):
        code = Code("drop", "plain", "out = none")
        self.assertTrue(code == Code("drop", "plain", "out = none"))
        self.assertFalse(code != Code("drop", "plain", "out = none"))
        for other in [Code("find", "plain", "out = none"), Code("drop", "sorted", "out = none"),
                      Code("drop", "plain", "out = first"), Code("drop", "plain", ""),
                      "out = none", None, 1, ("drop", "plain", "out = none"), [], object()]:
            self.assertFalse(code == other)
            self.assertTrue(code != other)

    def test_not_iterated_over(self):
        with self.assertRaises(TypeError):
            iter(Code("find", "plain", FIND))

    def test_in_way(self):
        code = Code("find", "plain", FIND)
        for way in WAYS:
            self.assertEqual(code.in_way(way=way), Code("find", way, FIND))
        self.assertEqual(code.way, "plain")
        stones = Code("find", "stones", text_of("if at is stone", "end", "stone at"))
        for way in ("plain", "sorted"):
            with self.assertRaises(Refused) as caught:
                stones.in_way(way)
            self.assertEqual(caught.exception.line, 1)
        for value in anything():
            with self.assertRaises(BadWay) as caught:
                stones.in_way(value)
            self.assertIs(caught.exception.way, value)


class OrderOfErrors(unittest.TestCase):
    many_lines = text_of(*["nothing"] * 61)
    many_ifs = text_of(*["if at is none", "end"] * 8)

    def test_kind_first(self):
        for value in anything():
            for way, text in (("plain", ""), ("nothing", self.many_lines), ([], "nothing")):
                with self.assertRaises(BadKind) as caught:
                    Code(value, way, text)
                self.assertIs(caught.exception.kind, value)

    def test_way_second(self):
        for value in anything():
            for text in ("", self.many_lines, "nothing"):
                with self.assertRaises(BadWay) as caught:
                    Code("find", value, text)
                self.assertIs(caught.exception.way, value)

    def test_too_many_lines_third(self):
        with self.assertRaises(TooMany) as caught:
            Code("find", "plain", self.many_lines)
        error = caught.exception
        self.assertEqual((error.what, error.many, error.most), ("lines", 61, 60))
        self.assertEqual(told("put", "plain", text_of(*["out = none"] * 60)), "right")
        self.assertEqual(told("put", "plain", text_of(*["out = none"] * 61)), ("TooMany", "lines", 61, 60))
        # Empty lines count, too.
        self.assertEqual(told("put", "plain", "\n" * 60), ("TooMany", "lines", 61, 60))
        self.assertEqual(told("put", "plain", "\n" * 59), ("BadLine", 1))

    def test_bad_line_fourth(self):
        self.assertEqual(told("take", "plain", self.many_ifs + "\nout = first\nnothing"), ("BadLine", 18))
        self.assertEqual(told("take", "plain", "out = first\nif at is none"), ("BadLine", 3))

    def test_too_many_ifs_fifth(self):
        self.assertEqual(told("take", "plain", "out = first\n" + self.many_ifs), ("TooMany", "ifs", 8, 7))

    def test_refused_last(self):
        seven = text_of(*["if at is none", "end"] * 7)
        self.assertEqual(told("take", "plain", seven), "right")
        self.assertEqual(told("take", "plain", seven + "\nout = first"), ("Refused", 15))


class Ifs(unittest.TestCase):
    def test_nested_and_on_no_way(self):
        nested = ["if at is none"] * 8 + ["end"] * 8
        self.assertEqual(told("take", "plain", text_of(*nested)), ("TooMany", "ifs", 8, 7))
        self.assertEqual(told("take", "plain", text_of("quit", *nested)), ("TooMany", "ifs", 8, 7))
        self.assertEqual(told("take", "plain", text_of(*nested[1:-1])), "right")

    def test_those_in_loops_do_not_count(self):
        inner = ["walk at is item"] + ["if at is item", "end"] * 20 + ["go", "end"]
        outer = ["if at is none", "end"] * 7
        self.assertEqual(told("take", "plain", text_of(*inner, *outer)), "right")
        self.assertEqual(told("take", "plain", text_of(*inner, *outer, *outer[:2])), ("TooMany", "ifs", 8, 7))

    def test_many_ifs_in_a_loop_are_read_at_once(self):
        inner = ["walk at is item"] + ["if at is item", "end"] * 28 + ["go", "end"]
        self.assertEqual(told("take", "plain", text_of(*inner)), "right")
        inner[2:3] = ["go", "end"]
        self.assertEqual(told("take", "plain", text_of(*inner)), ("Refused", 5))


if __name__ == "__main__":
    unittest.main()
