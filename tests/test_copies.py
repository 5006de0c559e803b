import copy
import time
import unittest

import exact
import judges
import surds
from heaplets import APART, THREE, ZERO, bad_heaps, far_corner, moved, some_heap, tiles_of
from samples import HUGE, odd_things, odd_tuples, seeded, some_corner
from test_corners import bad_corners
from test_floors import FAR, SHIFTS, bad_points, bad_sizes
from test_heaps import digits
from test_ribbons import bad_floors
from test_tiles import WAYS

from threetiles.copies import copies, heap_moved, is_reach_lot, nearest_copy, reach
from threetiles.corners import place
from threetiles.errors import (
    BadCorner, BadFloor, BadHeap, BadPoint, BadSize, EmptyHeap, FloorError, NotHeld)
from threetiles.floors import Floor, barred
from threetiles.lots import covered, window
from threetiles.pieces import Piece
from threetiles.points import square, taken
from threetiles.roots import Root

R = Root(0, 1, 1)
LITTLE = Root(1, 0, 10 ** 40)


def plus(one, other, times=1):
    return tuple([a + times * b for a, b in zip(one, other)])


def all_copies(floor, heap, point, size):
    """The copies near a point, by the words of the document."""
    first = heap[0][0]
    found = []
    for corner in floor.near(point, size):
        v = plus(corner, first, -1)
        if judges.has_all(floor.shift, moved(heap, v)):
            found.append(v)
    return sorted(found)


class TestHeapMoved(unittest.TestCase):
    def test_some(self):
        self.assertEqual(heap_moved([((1, 2, 3, 4), 0, 2)], (1, 1, 1, -9)), (((2, 3, 4, -5), 0, 2),))
        self.assertEqual(heap_moved([], (1, 2, 3, 4)), ())
        self.assertEqual(heap_moved((), ZERO), ())
        dice = seeded(171)
        for most in (3, HUGE):
            for heap in (THREE, tuple(THREE), THREE * 13):
                v = some_corner(dice, most)
                told = heap_moved(heap, v)
                self.assertIs(type(told), tuple)
                self.assertEqual(list(told), moved(heap, v))
                self.assertEqual(heap_moved(told, tuple([-part for part in v])), tuple(heap))
                self.assertEqual(heap_moved(heap, ZERO), tuple(heap))

    def test_wrong(self):
        for heap, index in bad_heaps():
            for v in (ZERO, None):
                with self.assertRaises(BadHeap) as caught:
                    heap_moved(heap, v)
                self.assertEqual(caught.exception.index, index)
        for v in bad_corners():
            for heap in (THREE, []):
                with self.assertRaises(BadCorner) as caught:
                    heap_moved(heap, v)
                self.assertIs(caught.exception.corner, v)
                self.assertIsInstance(caught.exception, FloorError)

    def test_nothing_changes(self):
        heap = list(THREE)
        heap_moved(heap, (1, 2, 3, 4))
        self.assertEqual(heap, THREE)


class TestCopies(unittest.TestCase):
    def test_some(self):
        dice = seeded(172)
        seen = 0
        for turn in range(24):
            floor = Floor(SHIFTS[turn % len(SHIFTS)])
            heap = some_heap(dice, tiles_of(floor, (0, 0), 2), 3)
            heap = moved(heap, some_corner(dice, (3, HUGE)[turn % 2]))
            point = ((0, 0), (Root(5, 3, 7), -R), (HUGE, 3))[turn % 3]
            size = (0, 1, 3, 5)[turn % 4]
            told = copies(floor, heap, point, size)
            self.assertIs(type(told), list)
            self.assertEqual(told, all_copies(floor, heap, point, size))
            self.assertEqual(told, sorted(set(told)))
            self.assertEqual(copies(floor, tuple(heap), point, size), told)
            seen += len(told)
        self.assertGreater(seen, 40)

    def test_the_heap_itself(self):
        for shift in SHIFTS:
            floor = Floor(shift)
            heap = tiles_of(floor, (1, 1), 2)[:4]
            first = place(heap[0][0])
            self.assertEqual(copies(floor, heap, first, 0), [ZERO])
            self.assertIn(ZERO, copies(floor, heap, first, 4))
            other = moved(heap, (3, 1, 4, 1))
            self.assertEqual(copies(floor, other, first, 0), [(-3, -1, -4, -1)])

    def test_size_12(self):
        floor = Floor((Root(1, 0, 3), Root(1, 0, 5)))
        heap = [(ZERO, 0, 2), ((0, 0, 0, 0), 0, 2)]
        begin = time.monotonic()
        told = copies(floor, heap, (0, R), 12)
        self.assertLess(time.monotonic() - begin, 10)
        self.assertEqual(told, all_copies(floor, heap, (0, R), 12))
        self.assertGreater(len(told), 30)
        self.assertEqual(told, [tile[0] for tile in tiles_of(floor, (0, R), 12) if tile[1:] == (0, 2)])

    def test_just_at_the_size_and_just_beyond(self):
        floor = Floor((0, 0))
        tile = tiles_of(floor, (0, 0), 2)[0]
        x, y = place(tile[0])
        for size in range(1, 13):
            for point, within in [((x + size, y), True), ((x, y - size), True), ((x + size + LITTLE, y), False),
                                  ((x, y - size - LITTLE), False), ((x + size - LITTLE, y), True),
                                  ((x + Root(3 * size, 0, 5), y + Root(4 * size, 0, 5)), True),
                                  ((x + Root(3 * size, 0, 5), y + Root(4 * size, 0, 5) + LITTLE), False)]:
                self.assertIs(ZERO in copies(floor, [tile], point, size), within)
                nearest = nearest_copy(floor, [tile], point, size)
                self.assertIs(nearest is None, copies(floor, [tile], point, size) == [])
        self.assertEqual(copies(floor, [tile], (x, y), 0), [ZERO])
        self.assertEqual(copies(floor, [tile], (x + LITTLE, y), 0), [])

    def test_heaps_that_no_floor_has(self):
        for heap in (THREE, APART):
            self.assertEqual(copies(Floor((0, 0)), heap, (0, 0), 12), [])
            self.assertIsNone(nearest_copy(Floor((0, 0)), heap, (0, 0), 12))

    def test_first_corner_is_that_of_the_first_tile(self):
        floor = Floor(SHIFTS[2])
        heap = [((5, 0, 0, 0), 0, 2), ((-5, 0, 0, 0), 1, 3)]
        for some in (heap, heap[::-1]):
            told = copies(floor, some, (0, 0), 10)
            self.assertEqual(told, all_copies(floor, some, (0, 0), 10))
            for v in told:
                self.assertTrue(exact.at_most(plus(some[0][0], v), (0, 0), 10))

    def test_wrong(self):
        tile = (ZERO, 0, 1)
        floor = Floor((0, 0))
        for deed in (copies, nearest_copy):
            for thing in bad_floors():
                for rest in ((None, None, None), ([tile], (0, 0), 1)):
                    with self.assertRaises(BadFloor) as caught:
                        deed(thing, *rest)
                    self.assertIs(caught.exception.floor, thing)
            for heap, index in bad_heaps():
                for point, size in [(None, None), ((0, 0), 1)]:
                    with self.assertRaises(BadHeap) as caught:
                        deed(floor, heap, point, size)
                    self.assertEqual(caught.exception.index, index)
            for heap in ([], ()):
                for point, size in [(None, None), ((0, 0), 1), ((0, 0), 13)]:
                    with self.assertRaises(EmptyHeap):
                        deed(floor, heap, point, size)
            for point in bad_points():
                for heap in ([tile], THREE):
                    for size in (1, None):
                        with self.assertRaises(BadPoint) as caught:
                            deed(floor, heap, point, size)
                        self.assertIs(caught.exception.point, point)
            for size in bad_sizes(12):
                for heap in ([tile], THREE):
                    with self.assertRaises(BadSize) as caught:
                        deed(floor, heap, (0, 0), size)
                    self.assertIs(caught.exception.size, size)

    def test_nothing_changes(self):
        floor, heap = Floor((0, 0)), [(ZERO, 0, 1), ((1, 0, 0, 0), 0, 1)]
        kept = copy.deepcopy(heap)
        told = copies(floor, heap, (0, 0), 4)
        again = copies(floor, heap, (0, 0), 4)
        self.assertEqual(told, again)
        self.assertIsNot(told, again)
        told.append(None)
        self.assertEqual(copies(floor, heap, (0, 0), 4), again)
        nearest_copy(floor, heap, (0, 0), 4)
        self.assertEqual(heap, kept)
        self.assertEqual(floor, Floor((0, 0)))


class TestNearestCopy(unittest.TestCase):
    def assert_nearest(self, floor, heap, point, most):
        """Judges the nearest copy, and returns how many are equally near."""
        told = nearest_copy(floor, heap, point, most)
        found = []
        for v in all_copies(floor, heap, point, most):
            found.append((surds.surd(square(taken(place(plus(heap[0][0], v)), point))), v))
        if not found:
            self.assertIsNone(told)
            return 0
        nearest = found[0][0]
        for far, v in found:
            nearest = far if far < nearest else nearest
        tied = [v for far, v in found if far == nearest]
        self.assertEqual(told, min(tied))
        return len(tied)

    def test_some(self):
        dice = seeded(173)
        seen = {}
        for turn in range(28):
            floor = Floor(SHIFTS[turn % len(SHIFTS)])
            heap = some_heap(dice, tiles_of(floor, (0, 0), 2), 3)
            heap = moved(heap, some_corner(dice, 3))
            point = (Root(dice.randint(-9, 9), dice.randint(-3, 3), 5), dice.randint(-9, 9))
            many = self.assert_nearest(floor, heap, point, (0, 2, 4, 7)[turn % 4])
            seen[min(many, 1)] = seen.get(min(many, 1), 0) + 1
        self.assertGreater(min(seen.values()), 4, seen)

    def test_of_two_equally_near_the_least(self):
        tied = 0
        for shift in SHIFTS[:3]:
            floor = Floor(shift)
            for tile in floor.tiles_at(floor.near((0, 0), 2)[0])[:3]:
                found = [place(plus(tile[0], v)) for v in copies(floor, [tile], (0, 0), 3)]
                # In the middle between two of them these are equally near.
                for one, other in zip(found[1:], found[:5]):
                    point = tuple([(a + b).over(2) for a, b in zip(one, other)])
                    tied += self.assert_nearest(floor, [tile], point, 2) > 1
        self.assertGreater(tied, 5)

    def test_none(self):
        self.assertIsNone(nearest_copy(Floor((0, 0)), [(ZERO, 0, 2)], (LITTLE, 0), 0))
        self.assertIsNone(nearest_copy(Floor((0, 0)), [(ZERO, 0, 2)], (0, 0), 0))

    def test_far_away(self):
        floor = Floor(SHIFTS[3])
        heap = tiles_of(floor, (0, 0), 1)[:2]
        there = nearest_copy(floor, moved(heap, FAR), place(far_corner(60)), 12)
        self.assertTrue(judges.has_all(SHIFTS[3], moved(heap, plus(FAR, there))))


def copy_pieces(heap, corners):
    """For each corner y the piece of the p, stars less the shift, with a copy whose first corner is y farther."""
    found = []
    for corner in corners:
        way = surds.star_of(plus(heap[0][0], corner, -1))
        # The shift, less the star of the corner, is -p, and has to lie in the heap's piece, moved by star(y - first).
        bounds = []
        for tile in heap:
            for d, number in surds.sides_of_lozenge(tile):
                far = number - surds.toward(d, way)
                bounds.append(((d + 4) % 8, Root(far.a, far.b, far.c)))
        found.append(Piece(bounds))
    return found


def is_lot(heap, thing):
    """Judges lots of reach, by the words of the document and by covered."""
    if type(thing) is not tuple or len(thing) > 400:
        return False
    for corner in thing:
        if type(corner) is not tuple or len(corner) != 4 or not all([type(part) is int for part in corner]):
            return False
    return covered(window(), copy_pieces(heap, thing))


def close_heap(dice, tiles, many):
    """So many tiles with own corners at most 3 away from one another."""
    while True:
        heap = dice.sample(tiles, many)
        if all([exact.at_most(one[0], place(other[0]), 3) for one in heap for other in heap]):
            return heap


class TestReach(unittest.TestCase):
    def assert_reach(self, heap, most):
        told = reach(heap, most)
        self.assertIs(type(told), tuple)
        if told[0] == "beyond":
            self.assertEqual(len(told), 2)
            shift = told[1]
            self.assertTrue(judges.is_let(shift))
            self.assertTrue(all([type(number) is Root for number in shift]))
            self.assertLessEqual(digits(shift), 400)
            self.assertTrue(exact.has_corner(shift, ZERO))
            floor = Floor(shift)
            self.assertEqual(all_copies(floor, heap, (0, 0), most), [])
            return told
        kind, size, lot = told
        self.assertEqual(kind, "within")
        self.assertIs(type(size), int)
        self.assertTrue(0 <= size <= most)
        self.assertIs(type(lot), tuple)
        self.assertLessEqual(len(lot), 400)
        self.assertEqual(len(set(lot)), len(lot))
        self.assertTrue(all([exact.at_most(corner, (0, 0), size) for corner in lot]))
        self.assertTrue(is_lot(heap, lot))
        self.assertIs(is_reach_lot(heap, lot), True)
        if size > 0:
            self.assertEqual(self.assert_reach(heap, size - 1)[0], "beyond")
        return told

    def test_some(self):
        dice = seeded(174)
        seen = {}
        for turn in range(18):
            floor = Floor(SHIFTS[turn % 5])
            heap = close_heap(dice, tiles_of(floor, (0, 0), 3), 1 + turn % 3)
            heap = moved(heap, some_corner(dice, (2, HUGE)[turn % 2]))
            told = self.assert_reach(heap, (5, 2, 4, 5, 3)[turn % 5])
            self.assertEqual(reach(tuple(heap), (5, 2, 4, 5, 3)[turn % 5]), told)
            seen[told[0]] = seen.get(told[0], 0) + 1
        self.assertGreater(min(seen.values()), 2, seen)

    def test_one_tile_of_each_sort(self):
        sizes = []
        for i, j in WAYS:
            told = self.assert_reach([(ZERO, i, j)], 5)
            self.assertEqual(told[0], "within")
            sizes.append(told[1])
            self.assertEqual(reach([(ZERO, i, j)], told[1])[:2], told[:2])
            self.assertEqual(reach([((7, -8, 9, 10), i, j)], 5)[:2], told[:2])
        self.assertTrue(set(sizes) <= {1, 2, 3})

    def test_most_0(self):
        dice = seeded(175)
        for _ in range(5):
            heap = close_heap(dice, tiles_of(Floor(SHIFTS[1]), (0, 0), 3), 2)
            self.assertEqual(self.assert_reach(heap, 0)[0], "beyond")

    def test_corners_of_floors_have_copies_so_near(self):
        heap = [(ZERO, 0, 2), (ZERO, 2, 3)]
        kind, size, lot = self.assert_reach(heap, 5)
        self.assertEqual(kind, "within")
        for shift in SHIFTS:
            floor = Floor(shift)
            for corner in floor.near((5, R), 5):
                there = nearest_copy(floor, heap, place(corner), size)
                self.assertIsNotNone(there)
                ways = [plus(plus(heap[0][0], v), corner, -1) for v in copies(floor, heap, place(corner), size)]
                self.assertTrue(set(ways) & set(lot))

    def test_in_time(self):
        dice = seeded(176)
        begin = time.monotonic()
        for _ in range(12):
            heap = close_heap(dice, tiles_of(Floor(SHIFTS[2]), (0, 0), 3), 3)
            told = reach(heap, 5)
            if told[0] == "within":
                self.assertIs(is_reach_lot(heap, told[2]), True)
        self.assertLess(time.monotonic() - begin, 20)

    def test_wrong(self):
        tile = (ZERO, 0, 1)
        deeds = [reach, lambda heap, most: is_reach_lot(heap, ())]
        for deed in deeds:
            for heap, index in bad_heaps():
                with self.assertRaises(BadHeap) as caught:
                    deed(heap, None)
                self.assertEqual(caught.exception.index, index)
            for heap in ([], ()):
                for most in (None, 0):
                    with self.assertRaises(EmptyHeap):
                        deed(heap, most)
            for heap in (THREE, tuple(APART)):
                for most in (None, 0):
                    with self.assertRaises(NotHeld):
                        deed(heap, most)
        for most in bad_sizes(5):
            for heap in ([tile], (tile, tile)):
                with self.assertRaises(BadSize) as caught:
                    reach(heap, most)
                self.assertIs(caught.exception.size, most)

    def test_nothing_changes(self):
        heap = [(ZERO, 0, 1), (ZERO, 1, 2)]
        kept = copy.deepcopy(heap)
        told = reach(heap, 3)
        self.assertEqual(reach(heap, 3), told)
        is_reach_lot(heap, told[-1])
        self.assertEqual(heap, kept)


class TestIsReachLot(unittest.TestCase):
    def test_spoiled(self):
        dice = seeded(177)
        seen = {True: 0, False: 0}
        for turn in range(4):
            heap = close_heap(dice, tiles_of(Floor(SHIFTS[turn]), (0, 0), 2), 1 + turn % 2)
            told = reach(heap, 5)
            if told[0] != "within":
                continue
            lot = told[2]
            some = [lot[:at] + lot[at + 1:] for at in range(len(lot))][::3]
            some += [lot + lot[:1], lot + lot, lot + (some_corner(dice, 2),), lot + ((HUGE, 0, 0, -HUGE),), lot[::-1]]
            for at in (0, len(lot) - 1):
                for thing in (list(lot[at]), lot[at][:3], lot[at] + (0,), None, (*lot[at][:3], True), (*lot[at][:3], None),
                              (*lot[at][:3], lot[at][3] + 10 ** 30), (*lot[at][:3], float(lot[at][3]))):
                    some.append(lot[:at] + (thing,) + lot[at + 1:])
                    some.append(lot + (thing,))
            for thing in some:
                judged = is_reach_lot(heap, thing)
                self.assertIs(judged, is_lot(heap, thing), thing)
                seen[judged] += 1
            self.assertIs(is_reach_lot(heap, list(lot)), False)
        self.assertGreater(min(seen.values()), 10, seen)

    def test_left_out_and_put_in(self):
        # Of a least lot no corner may be left out; whatever is put in does no harm.
        heap = [(ZERO, 0, 2)]
        kind, size, lot = reach(heap, 5)
        least = lot
        for corner in lot:
            less = tuple([other for other in least if other != corner])
            if is_lot(heap, less):
                least = less
        self.assertIs(is_reach_lot(heap, least), True)
        for at in range(len(least)):
            self.assertIs(is_reach_lot(heap, least[:at] + least[at + 1:]), False)
            self.assertIs(is_reach_lot(heap, least[:at] + (least[at],) + least[at:]), True)

    def test_four_hundred(self):
        heap = [(ZERO, 0, 2)]
        lot = reach(heap, 5)[2]
        for many in (399, 400, 401, 500):
            more = (lot * 400)[:many]
            self.assertIs(is_reach_lot(heap, more), many <= 400)
            strewn = lot + tuple([(k, 0, 0, 0) for k in range(many - len(lot))])
            self.assertEqual(len(strewn), many)
            self.assertIs(is_reach_lot(heap, strewn), many <= 400)
        self.assertIs(is_reach_lot(heap, ()), False)
        self.assertIs(is_reach_lot(heap, (ZERO,)), False)

    def test_lots_of_other_heaps(self):
        heaps = [[(ZERO, i, j)] for i, j in WAYS] + [[(ZERO, 0, 2), (ZERO, 2, 3)], [(ZERO, 2, 3), (ZERO, 0, 2)],
                                                     [((1, 1, 0, 0), 0, 2)], [(ZERO, 0, 2), ((1, 1, 0, 0), 0, 2)]]
        heaps = [heap for heap in heaps if reach(heap, 5)[0] == "within"]
        lots = [reach(heap, 5)[2] for heap in heaps]
        seen = {True: 0, False: 0}
        for heap in heaps:
            for lot in lots:
                judged = is_reach_lot(heap, lot)
                self.assertIs(judged, is_lot(heap, lot))
                seen[judged] += 1
        self.assertGreater(min(seen.values()), 5, seen)

    def test_any_object(self):
        for thing in odd_things() + odd_tuples() + [1.5, 2j, {1}, R, Piece([]), Floor((0, 0))]:
            for paper in (thing, (thing,), (thing,) * 3):
                self.assertIs(is_reach_lot([(ZERO, 0, 1)], paper), False)

    def test_points_of_the_window(self):
        # At each point of the window one of the told corners leads to a copy.
        dice = seeded(178)
        heap = [(ZERO, 0, 2), (ZERO, 2, 3)]
        told = reach(heap, 5)
        self.assertEqual(told[0], "within")
        for _ in range(60):
            shift = (Root(dice.randint(-1200, 1200), 0, 1001), Root(dice.randint(-1200, 1200), 0, 1003))
            if barred(shift) is None and exact.has_corner(shift, ZERO):
                there = [y for y in told[2] if judges.has_all(shift, moved(heap, plus(y, heap[0][0], -1)))]
                self.assertTrue(there)


if __name__ == "__main__":
    unittest.main()
