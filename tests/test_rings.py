import itertools
import random
import unittest

from openrings.errors import BadRing, BadWay
from openrings.rings import (all_items, distance, home, is_lawful, is_ring, placed, runs)
from tests.samples import WAYS, Strange, anything

A, B, C = (1, 0, 10), (2, 0, 20), (3, 1, 30)


def is_lawful_by_the_word(ring, way):
    """[7], walked row by row."""
    many = len(ring)

    def walk(row):
        rows = [ring[row][1] % many]
        while rows[-1] != row:
            rows.append((rows[-1] + 1) % many)
        return rows
    held = [row for row in range(many) if isinstance(ring[row], tuple)]
    if way != "stones" and "stone" in ring:
        return False
    if any(ring[met] is None for row in held for met in walk(row)):
        return False
    if way == "sorted":
        for row in held:
            after = (row + 1) % many
            if after in held and len(walk(after)) > len(walk(row)) + 1:
                return False
    return True


class Examples(unittest.TestCase):
    def test_the_first(self):
        r = ((1, 0, 10), (2, 0, 20), (3, 1, 30), None, None)
        self.assertEqual(
            [is_lawful(r, "plain"), is_lawful(r, "sorted"),
             is_lawful((r[1], r[2], r[0], None), "sorted"), runs(r), home((9, 23, 0), 5)],
            [True, True, False, [(0, 3)], 3])

    def test_the_second(self):
        self.assertEqual(
            [len(placed([(7, 4, 1), (8, 4, 2)], 5, "plain")),
             runs((None, (7, 4, 1), None, "stone", (9, 3, 2)))],
            [5, [(1, 1), (3, 2)]])


class IsRing(unittest.TestCase):
    def test_rings(self):
        for ring in [(None,), (None, None), (A, None), (None, A), ("stone", None), (A, "stone", None),
                     (A, B, C, None), ((-5, 10 ** 40, -7), None), ((0, 0, 0), (1, 0, 0), None),
                     # Lawful or not is not asked.
                     (None, None, (1, 0, 10)), (B, A, None), (None,) * 100]:
            self.assertIs(is_ring(ring), True, ring)

    def test_other_values(self):
        for value in anything():
            self.assertIs(is_ring(value), False)
        for value in [[None], [A, None], (), (A,), (A, B), ("stone",), (A, "stone"), "stone", A,
                      (None, [1, 0, 10]), (None, (1, 0)), (None, (1, 0, 10, 5)), (None, ()),
                      (None, (True, 0, 10)), (None, (1, True, 10)), (None, (1, False, 10)),
                      (None, (1, 0, False)), (None, (1, -1, 10)), (None, (1, -10 ** 40, 10)),
                      (None, (1.0, 0, 10)), (None, (1, 0.0, 10)), (None, ("1", 0, 10)),
                      (None, (1, None, 10)), (None, ([], 0, 10)), (None, (1, [], 10)),
                      (None, A, (1, 5, 6)), (A, None, A), (None, (10 ** 30, 0, 0), (10 ** 30, 1, 1)),
                      (None, "stones"), (None, "Stone"), (None, ""), (None, "empty"), (None, b"stone"),
                      (None, 0), (None, False), (None, True), (None, []), (None, {}),
                      (None, Strange()), (None, (Strange(), 0, 0)), {None: None}]:
            self.assertIs(is_ring(value), False)


class Places(unittest.TestCase):
    def test_home(self):
        self.assertEqual([home((9, k, 0), 4) for k in range(9)], [0, 1, 2, 3, 0, 1, 2, 3, 0])
        self.assertEqual(home((-1, 10 ** 50 + 3, -1), 10), 3)
        self.assertEqual(home(item=(1, 7, 2), many=1), 0)

    def test_distance(self):
        self.assertEqual([distance(2, k, 5) for k in range(5)], [3, 4, 0, 1, 2])
        self.assertEqual([distance(4, 0, 5), distance(0, 4, 5), distance(0, 0, 1)], [1, 4, 0])
        self.assertEqual(distance(one=3, other=1, many=4), 2)


class Runs(unittest.TestCase):
    def test_runs(self):
        for ring, found in [
                ((None,), []),
                ((None, None, None), []),
                ((A, None), [(0, 1)]),
                ((None, A), [(1, 1)]),
                ((A, None, B), [(2, 2)]),
                ((A, B, None, C), [(3, 3)]),
                (("stone", None, "stone", None), [(0, 1), (2, 1)]),
                ((A, None, B, None, C), [(2, 1), (4, 2)]),
                ((None, A, "stone", B, None), [(1, 3)]),
                ((A, B, C, None), [(0, 3)])]:
            self.assertEqual(runs(ring), found, ring)

    def test_new_lists(self):
        ring = (A, None)
        runs(ring).append(1)
        self.assertEqual(runs(ring), [(0, 1)])
        self.assertIs(type(runs(ring)[0]), tuple)

    def test_all_items(self):
        self.assertEqual(all_items((None,)), ())
        self.assertEqual(all_items((C, "stone", None, A, B)), (C, A, B))
        self.assertEqual(all_items(ring=(None, A)), (A,))

    def test_errors(self):
        for ask in (runs, all_items):
            for value in anything() + [[None], (A,), (A, A, None)]:
                with self.assertRaises(BadRing) as caught:
                    ask(value)
                self.assertIs(caught.exception.ring, value)


class IsLawful(unittest.TestCase):
    def ways_of(self, ring):
        return [way for way in WAYS if is_lawful(ring, way)]

    def test_rings(self):
        everywhere = ["plain", "stones", "sorted"]
        for ring, ways in [
                ((None,), everywhere),
                ((None, None), everywhere),
                ((A, None), everywhere),
                # The home is the empty row ahead of the item.
                ((None, (1, 0, 10)), []),
                # The walk leads over the whole ring.
                (((1, 1, 0), None), []),
                ((None, (1, 1, 0)), everywhere),
                (((1, 5, 0), None, None), []),
                (((1, 6, 0), None, None), everywhere),
                ((A, B, C, None), everywhere),
                ((A, (3, 1, 30), (2, 0, 20), None), ["plain", "stones"]),
                ((B, C, A, None), ["plain", "stones"]),
                # An empty row in the midst of the walk.
                ((A, None, B, None), []),
                ((A, "stone", B, None), ["stones"]),
                (("stone", None), ["stones"]),
                (("stone", A, None), ["stones"]),
                # A stone on the way keeps it, an empty row does not.
                (("stone", "stone", (1, 0, 0), None), ["stones"]),
                ((None, "stone", (1, 0, 0), None), [])]:
            self.assertEqual(self.ways_of(ring), ways, ring)

    def test_over_the_seam(self):
        for ring, ways in [
                (((1, 3, 0), None, None, (2, 3, 0)), ["plain", "stones", "sorted"]),
                (((1, 2, 0), None, None, (2, 3, 0)), []),
                (((1, 3, 0), (3, 3, 0), None, (2, 3, 0)), ["plain", "stones", "sorted"]),
                # A home falls back behind the seam, at the seam, and ahead of it.
                (((1, 0, 0), (3, 3, 0), None, (2, 3, 0)), ["plain", "stones"]),
                (((4, 3, 0), None, None, (2, 3, 0), (5, 4, 0)), ["plain", "stones"]),
                (((4, 4, 0), None, None, (2, 3, 0), (5, 3, 0)), ["plain", "stones", "sorted"]),
                (("stone", None, None, (2, 3, 0)), ["stones"]),
                (((1, 3, 0), None, None, "stone"), ["stones"])]:
            self.assertEqual(self.ways_of(ring), ways, ring)

    def test_all_small_rings(self):
        for many in range(1, 5):
            held = [None, "stone"] + list(range(many))
            for row in itertools.product(held, repeat=many):
                if None not in row:
                    continue
                ring = tuple((key, hash_, 0) if isinstance(hash_, int) else hash_
                             for key, hash_ in enumerate(row))
                for way in WAYS:
                    self.assertIs(is_lawful(ring, way), is_lawful_by_the_word(ring, way), (ring, way))

    def test_hashes_of_many_figures(self):
        self.assertEqual(self.ways_of((None, (1, 10 ** 40 + 1, 0))), ["plain", "stones", "sorted"])
        self.assertEqual(self.ways_of((None, (1, 10 ** 40, 0))), [])

    def test_no_ring(self):
        for value in anything() + [[None], (A,), (A, A, None)]:
            for way in ("plain", "nothing", []):
                with self.assertRaises(BadRing) as caught:
                    is_lawful(value, way)
                self.assertIs(caught.exception.ring, value)

    def test_no_way(self):
        for value in anything():
            with self.assertRaises(BadWay) as caught:
                is_lawful(ring=(None,), way=value)
            self.assertIs(caught.exception.way, value)


class Placed(unittest.TestCase):
    def check(self, items, many):
        for way in WAYS:
            ring = placed(items, many, way)
            self.assertTrue(is_ring(ring))
            self.assertEqual(len(ring), many)
            self.assertEqual(sorted(all_items(ring)), sorted(items))
            self.assertTrue(is_lawful(ring, way), (ring, way))

    def test_few(self):
        self.check([], 1)
        self.check((), 3)
        self.check([A], 2)
        self.check((C, B, A), 4)
        self.check([C, B, A], 50)

    def test_homes_that_lead_over_the_seam(self):
        self.check([(1, 3, 0), (2, 3, 0), (3, 0, 0)], 4)
        self.check([(3, 0, 0), (1, 3, 0), (2, 3, 0)], 4)
        self.check([(1, 4, 0), (2, 3, 0), (3, 4, 0), (4, 0, 0)], 5)
        self.check([(4, 0, 0), (3, 4, 0), (2, 3, 0), (1, 4, 0)], 5)

    def test_one_row_stays_empty(self):
        for many in range(1, 8):
            for first in range(many):
                self.check([(key, first, 0) for key in range(many - 1)], many)
                self.check([(key, first + key * 7, 0) for key in range(many - 1)], many)

    def test_hashes_of_many_figures(self):
        self.check([(key, 10 ** 60 + 10 ** key, -key) for key in range(9)], 10)

    def test_many_lists(self):
        chosen = random.Random(7)
        for _ in range(400):
            many = chosen.randint(1, 12)
            keys = chosen.sample(range(-40, 40), chosen.randint(0, many - 1))
            self.check([(key, chosen.randint(0, 25), 0) for key in keys], many)
        self.check([(key, chosen.randint(0, 10 ** 20), 0) for key in range(99)], 100)

    def test_what_is_passed_stays(self):
        items = [(1, 0, 0), (2, 0, 0), (3, 1, 0)]
        placed(items, 5, "sorted")
        self.assertEqual(items, [(1, 0, 0), (2, 0, 0), (3, 1, 0)])

    def test_no_list_of_items(self):
        for value in [None, True, 7, "", "stone", {}, set(), {A: 1}, A, [A, A], [A, (1, 5, 6)], [None],
                      ["stone"], [[1, 0, 10]], [(1, 0)], [(1, -1, 0)], [(True, 0, 0)], [1], [[]],
                      object(), Strange(), [Strange()]]:
            for way in ("plain", "nothing", []):
                with self.assertRaises(BadRing) as caught:
                    placed(value, 9, way)
                self.assertIs(caught.exception.ring, value)

    def test_too_many_items(self):
        for many in (3, 2, 1, 0):
            with self.assertRaises(BadRing) as caught:
                placed([A, B, C], many, "nothing")
            self.assertEqual(caught.exception.ring, [A, B, C])
        with self.assertRaises(BadRing):
            placed([], 0, "plain")

    def test_no_way(self):
        for value in anything():
            with self.assertRaises(BadWay) as caught:
                placed(items=[A], many=2, way=value)
            self.assertIs(caught.exception.way, value)


if __name__ == "__main__":
    unittest.main()
