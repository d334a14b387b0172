"""[21]: stores, their deeds, growing and taking back."""

import unittest

from openrings.codes import Code
from openrings.errors import BadHanded, BadName, BadRing, BadSize, BadWay, NoDeed, NothingToUndo
from openrings.play import Play, play
from openrings.rings import all_items, is_lawful
from openrings.stores import Store
from tests.samples import (DROP, DROP_STONES, FIND, PUT, PUT_SORTED, PUT_STONES, SET, SET_SORTED, SET_STONES, TAKE,
                           TAKE_STONES, WAYS, anything, text_of)
from tests.small import numbers

TEXTS = {
    "plain": {"find": FIND, "put": PUT, "set": SET, "take": TAKE, "drop": DROP},
    "stones": {"find": FIND, "put": PUT_STONES, "set": SET_STONES, "take": TAKE_STONES, "drop": DROP_STONES},
    "sorted": {"find": FIND, "put": PUT_SORTED, "set": SET_SORTED, "take": TAKE, "drop": DROP},
}


def codes_of(way, **more):
    return {kind: Code(kind, way, text) for kind, text in TEXTS[way].items()} | more


def state(store):
    return store.present(), store.undoable(), len(store), store.way


class Interface(unittest.TestCase):
    def test_example(self):
        put, take, find = Code("put", "plain", PUT), Code("take", "plain", TAKE), Code("find", "plain", FIND)
        K = Store("plain", 3, {"put": put, "take": take, "find": find})
        self.assertEqual([K.do("put", (1, 2, 10)).left, K.do("put", (2, 2, 20)).left, K.grow("put"), K.present(), K.undoable()],
                         [(None, None, (1, 2, 10)), ((2, 2, 20), None, (1, 2, 10)), True,
                          (None, None, (2, 2, 20), (1, 2, 10), None, None), 3])

    def test_arguments_by_name(self):
        store = Store(codes=codes_of("plain"), many=4, way="plain")
        self.assertEqual(store.do(handed=(1, 2, 3), name="put").ended, "done")
        self.assertIs(store.grow(name="put"), True)
        self.assertEqual(state(store), ((None, None, (1, 2, 3)) + (None,) * 5, 2, 1, "plain"))

    def test_a_new_store(self):
        for way in WAYS:
            for many in (1, 2, 17):
                store = Store(way, many, {})
                self.assertEqual(state(store), ((None,) * many, 0, 0, way))

    def test_kinds_of_values(self):
        store = Store("plain", 4, codes_of("plain"))
        self.assertIsInstance(store.do("put", (1, 0, 0)), Play)
        self.assertIs(type(store.grow("put")), bool)
        self.assertIs(type(store.present()), tuple)
        self.assertIsNone(store.undo())
        self.assertEqual((type(store.undoable()), type(len(store))), (int, int))

    def test_the_dict_is_copied(self):
        codes = codes_of("plain")
        store = Store("plain", 4, codes)
        del codes["put"]
        codes["find"] = Code("take", "plain", TAKE)
        store.do("put", (1, 2, 3))
        self.assertEqual(store.do("find", (1, 2)).out, 2)

    def test_not_iterated_over(self):
        with self.assertRaises(TypeError):
            iter(Store("plain", 3, {}))

    def test_stores_are_apart(self):
        codes = codes_of("plain")
        one, other = Store("plain", 4, codes), Store("plain", 4, codes)
        one.do("put", (1, 2, 3))
        self.assertEqual((len(one), len(other), other.undoable()), (1, 0, 0))


class Errors(unittest.TestCase):
    def raises(self, error, field, value, call):
        with self.assertRaises(error) as caught:
            call()
        if field is not None:
            self.assertIs(getattr(caught.exception, field), value)

    def test_bad_way(self):
        for value in anything() + ["find", "Stones"]:
            self.raises(BadWay, "way", value, lambda: Store(value, 3, {}))
            self.raises(BadWay, "way", value, lambda: Store(value, 0, {1: 2}))

    def test_bad_size(self):
        for value in anything() + [0, -1, "3", 1.0, (3,)]:
            if isinstance(value, int) and not isinstance(value, bool) and value > 0:
                continue
            self.raises(BadSize, "n", value, lambda: Store("plain", value, {}))
            self.raises(BadSize, "n", value, lambda: Store("plain", value, {1: 2}))

    def test_bad_name(self):
        put = Code("put", "plain", PUT)
        for name in (1, None, ("put",), b"put", True):
            self.raises(BadName, "name", name, lambda: Store("plain", 3, {"put": put, name: put, 7: put}))
        for value in anything() + [PUT, Code("put", "stones", PUT), Code("find", "sorted", FIND), Code]:
            name = "a name"
            self.raises(BadName, "name", name, lambda: Store("plain", 3, {"put": put, name: value, 5: put}))
        # The first one in the order of the dict.
        self.raises(BadName, "name", "b", lambda: Store("plain", 3, {"a": put, "b": 1, 2: put, "c": 3}))
        self.raises(BadName, "name", 2, lambda: Store("plain", 3, {"a": put, 2: put, "b": 1, "c": 3}))

    def test_any_string_is_a_name(self):
        put = Code("put", "plain", PUT)
        store = Store("plain", 3, {"": put, "put in\n~": put, "undo": put})
        for key, name in enumerate(("", "put in\n~")):
            self.assertEqual(store.do(name, (key, 1, 1)).ended, "done")
        self.assertIs(store.grow("undo"), True)

    def test_no_deed(self):
        store = Store("plain", 4, codes_of("plain"))
        store.do("put", (1, 2, 3))
        before = state(store)
        for value in anything() + ["Put", "put ", "Find"]:
            self.raises(NoDeed, "name", value, lambda: store.do(value, (2, 2, 2)))
            self.raises(NoDeed, "name", value, lambda: store.do(value, "nothing"))
            self.raises(NoDeed, "name", value, lambda: store.grow(value))
        for name in ("find", "set", "take", "drop"):
            self.raises(NoDeed, "name", name, lambda: store.grow(name))
        self.assertEqual(state(store), before)

    def test_bad_ring(self):
        store = Store("plain", 2, codes_of("plain"))
        store.do("put", (1, 0, 0))
        before = state(store)
        for name in ("put", "set"):
            for handed in ((2, 0, 0), (1, 0, 0), "nothing", None):
                self.raises(BadRing, "ring", store.present(), lambda: store.do(name, handed))
        self.raises(BadHanded, "handed", "nothing", lambda: store.do("drop", "nothing"))
        self.assertEqual(state(store), before)
        self.raises(BadRing, None, None, lambda: Store("plain", 1, codes_of("plain")).do("put", (1, 0, 0)))

    def test_bad_handed(self):
        store = Store("plain", 5, codes_of("plain"))
        store.do("put", (1, 7, 3))
        before = state(store)
        wrong = {"find": [(1, 8), (1, 2), (2, -1), (1, 7, 3)], "put": [(1, 7, 3), (1, 7, 4), (2, -1, 0), (2, 7)],
                 "set": [(1, 2, 3), (2, -1, 0), (1, 7)], "take": [0, 5, -3, (1, 7), True], "drop": [(1, 2), (2, 2, 2)]}
        for name, values in wrong.items():
            for value in values + anything():
                self.raises(BadHanded, "handed", value, lambda: store.do(name, value))
        self.assertEqual(state(store), before)

    def test_nothing_to_undo(self):
        store = Store("plain", 3, codes_of("plain"))
        self.raises(NothingToUndo, None, None, store.undo)
        store.do("put", (1, 0, 0))
        store.undo()
        self.raises(NothingToUndo, None, None, store.undo)
        self.assertEqual(state(store), ((None,) * 3, 0, 0, "plain"))


class Deeds(unittest.TestCase):
    def test_many_deeds_in_each_way(self):
        for way in WAYS:
            self.many_deeds(way, numbers(WAYS.index(way)))

    def many_deeds(self, way, source):
        """Does what comes by chance, and the same with a dict."""
        store, there, past = Store(way, 4, codes_of(way)), {}, []
        for _ in range(400):
            before, items = store.present(), dict(there)
            self.one_deed(store, there, source)
            ring = store.present()
            self.assertTrue(is_lawful(ring, way))
            self.assertEqual(sorted(all_items(ring)), sorted((key, *rest) for key, rest in there.items()))
            self.assertEqual(len(store), len(there))
            past.append((before, items))
            self.assertEqual(store.undoable(), len(past))
            if next(source) % 7 == 0:
                for _ in range(min(next(source) % 4, len(past))):
                    ring, items = past.pop()
                    store.undo()
                    self.assertEqual((store.present(), store.undoable()), (ring, len(past)))
                    there.clear()
                    there.update(items)
        while past:
            store.undo()
            self.assertEqual(store.present(), past.pop()[0])
        self.assertEqual(state(store), ((None,) * 4, 0, 0, way))

    def one_deed(self, store, there, source):
        ring = store.present()
        key, mark = next(source) % 30, next(source) % 5
        hashed = key * 7 % 13
        if ring.count(None) < 3:
            self.assertIs(store.grow("put"), True)
            self.assertEqual(len(store.present()), 2 * len(ring))
            return
        name = ("find", "put", "set", "take", "drop", "set")[next(source) % 6]
        if name == "take" and there:
            row = [at for at, held in enumerate(ring) if isinstance(held, tuple)][next(source) % len(there)]
            done = store.do("take", row)
            del there[ring[row][0]]
        elif name == "drop":
            done = store.do("drop", (key, hashed))
            there.pop(key, None)
        elif name == "set" or (name == "put" and key not in there):
            done = store.do(name, (key, hashed, mark))
            there[key] = (hashed, mark)
        else:
            done = store.do("find", (key, hashed))
            told = None if done.out is None else ring[done.out][0]
            self.assertEqual(told, key if key in there else None)
        self.assertEqual((done.ended, done.left, [name for name in done.broken if name != "steady"]),
                         ("done", store.present(), []))

    def test_the_play_is_that_of_the_code(self):
        codes = codes_of("plain")
        store = Store("plain", 5, codes)
        store.do("put", (1, 3, 0))
        for name, handed in (("put", (2, 3, 0)), ("find", (2, 3)), ("take", 3), ("drop", (2, 3))):
            alike = play(codes[name], store.present(), handed)
            self.assertEqual(vars(store.do(name, handed)), vars(alike))

    def test_a_find_stays(self):
        store = Store("plain", 3, codes_of("plain"))
        store.do("find", (1, 1))
        self.assertEqual(store.undoable(), 1)
        store.undo()
        self.assertEqual(store.undoable(), 0)

    def test_deeds_that_do_not_stay(self):
        lines = {
            "beyond": ["at = first", "at gets hand", "empty low"],
            "endless": ["at = first", "at gets hand", "walk at is item", "end"],
            "twice": ["at = first", "at gets hand", "low = next at", "low gets hand"],
            "far": ["at = first", "walk not at is empty", "go", "end", "at gets hand", "low = first", "empty low"],
        }
        store = Store("plain", 5, codes_of("plain", **{name: Code("put", "plain", text_of(*text))
                                                       for name, text in lines.items()}))
        for key in range(3):
            store.do("put", (key, 1, key))
        before = state(store)
        for name, ended in (("beyond", "beyond"), ("endless", "endless"), ("twice", "done"), ("far", "done")):
            done = store.do(name, (9, 1, 9))
            self.assertEqual(done.ended, ended)
            self.assertNotEqual(done.left, store.present())
            self.assertEqual(state(store), before, name)

    def test_no_empty_row(self):
        store = Store("stones", 1, {"fill": Code("drop", "stones", "at = first\nstone at")})
        done = store.do("fill", (1, 0))
        self.assertEqual((done.ended, done.left, done.broken), ("done", ("stone",), ("lawful",)))
        self.assertEqual(state(store), ((None,), 0, 0, "stones"))

    def test_deeds_that_leave_other_items_stay(self):
        store = Store("plain", 4, codes_of("plain", none=Code("put", "plain", ""), over=Code("put", "plain",
                                                                                          "at = first\nat gets hand")))
        self.assertEqual(store.do("none", (1, 0, 0)).broken, ("items",))
        self.assertEqual(state(store), ((None,) * 4, 1, 0, "plain"))
        store.do("put", (1, 0, 0))
        self.assertEqual(store.do("over", (2, 0, 0)).broken, ("items",))
        self.assertEqual(state(store), (((2, 0, 0), None, None, None), 3, 1, "plain"))


class Growing(unittest.TestCase):
    def test_in_the_order_of_the_rows(self):
        store = Store("plain", 4, codes_of("plain"))
        for item in ((1, 3, 0), (2, 3, 0), (3, 1, 0)):
            store.do("put", item)
        self.assertEqual(store.present(), ((2, 3, 0), (3, 1, 0), None, (1, 3, 0)))
        self.assertIs(store.grow("put"), True)
        # The item of the row 0 comes first, before the one that was put before it.
        self.assertEqual(store.present(), (None, (3, 1, 0), None, (2, 3, 0), (1, 3, 0), None, None, None))
        self.assertEqual((store.undoable(), len(store)), (4, 3))
        store.undo()
        self.assertEqual(store.present(), ((2, 3, 0), (3, 1, 0), None, (1, 3, 0)))

    def test_stones_go(self):
        store = Store("stones", 4, codes_of("stones"))
        for item in ((1, 3, 0), (2, 3, 0)):
            store.do("put", item)
        store.do("take", 3)
        self.assertEqual(store.present(), ((2, 3, 0), None, None, "stone"))
        self.assertIs(store.grow("put"), True)
        self.assertEqual(store.present(), (None, None, None, (2, 3, 0)) + (None,) * 4)

    def test_an_empty_store(self):
        for many in (1, 2, 5):
            store = Store("sorted", many, codes_of("sorted"))
            self.assertIs(store.grow("put"), True)
            self.assertIs(store.grow("put"), True)
            self.assertEqual(state(store), ((None,) * 4 * many, 2, 0, "sorted"))
            store.undo()
            self.assertEqual(len(store.present()), 2 * many)

    def test_growing_that_does_not_stay(self):
        never = Code("put", "plain", text_of("at = first", "if at is item", "empty low", "end", "at gets hand"))
        store = Store("plain", 4, codes_of("plain", never=never))
        store.do("put", (1, 1, 0))
        store.do("put", (2, 9, 0))
        self.assertEqual(store.present(), (None, (1, 1, 0), (2, 9, 0), None))
        before = state(store)
        self.assertIs(store.grow("never"), False)
        self.assertEqual(state(store), before)
        # Where the homes differ all plays stay.
        store.undo()
        store.do("put", (2, 5, 0))
        self.assertEqual(store.present(), (None, (1, 1, 0), (2, 5, 0), None))
        self.assertIs(store.grow("never"), True)
        self.assertEqual(store.present(), (None, (1, 1, 0), None, None, None, (2, 5, 0), None, None))

    def test_growing_by_a_code_that_is_not_lawful(self):
        store = Store("sorted", 4, codes_of("sorted", end=Code("put", "sorted", PUT)))
        for item in ((1, 1, 0), (2, 2, 0)):
            store.do("put", item)
        store.do("put", (3, 0, 0))
        before = store.present()
        self.assertIs(store.grow("end"), True)
        for item in ((4, 1, 0), (5, 1, 0)):
            store.do("put", item)
        self.assertEqual([held[1] for held in store.present() if held is not None], [0, 1, 1, 1, 2])
        store.undo(), store.undo(), store.undo()
        self.assertEqual(store.present(), before)

    def test_growing_that_loses_items_stays(self):
        store = Store("plain", 3, codes_of("plain", none=Code("put", "plain", "")))
        store.do("put", (1, 0, 0))
        self.assertIs(store.grow("none"), True)
        self.assertEqual(state(store), ((None,) * 6, 2, 0, "plain"))
        store.undo()
        self.assertEqual(len(store), 1)


if __name__ == "__main__":
    unittest.main()
