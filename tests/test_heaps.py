import copy
import time
import unittest

import judges
import surds
from heaplets import APART, THREE, ZERO, bad_heaps, far_corner, heap_about, moved, some_heap, tiles_of
from samples import HUGE, odd_things, odd_tuples, seeded, some_corner, some_root
from test_floors import SHIFTS
from test_tiles import WAYS

from threetiles.corners import place
from threetiles.errors import BadHeap, FloorError
from threetiles.floors import Floor, barred
from threetiles.heaps import heap_piece, held, is_held
from threetiles.lots import lozenge, tile_bounds
from threetiles.pieces import Piece
from threetiles.points import is_point
from threetiles.roots import Root

R = Root(0, 1, 1)


def random_heap(dice, most, many):
    return [(some_corner(dice, most), *dice.choice(WAYS)) for _ in range(many)]


def digits(point):
    return max([len(str(abs(part))) for number in point for part in (number.top, number.root, number.bottom)])


class TestHeapPiece(unittest.TestCase):
    def test_all_points_for_the_empty_heap(self):
        for heap in ([], ()):
            self.assertEqual(heap_piece(heap), Piece([]))
            self.assertEqual(heap_piece(heap).bounds, (None,) * 8)

    def test_one_tile(self):
        for tile in THREE + [((HUGE, -HUGE, 3, 4), 2, 3)]:
            self.assertEqual(heap_piece([tile]), lozenge(tile))
            self.assertEqual(heap_piece((tile, tile)), lozenge(tile))

    def test_tiles_of_floors(self):
        dice = seeded(101)
        for shift in SHIFTS:
            tiles = tiles_of(Floor(shift), (0, 0), 4)
            for _ in range(8):
                heap = some_heap(dice, tiles, 12)
                piece = heap_piece(heap)
                self.assertIsInstance(piece, Piece)
                self.assertTrue(piece.has(shift))
                self.assertEqual(surds.surd(piece.area()), surds.area(surds.heap_polygon(heap)))
                expected = lozenge(heap[0])
                for tile in heap:
                    self.assertTrue(piece.within(lozenge(tile)))
                    expected = expected.met(lozenge(tile))
                self.assertEqual(piece, expected)
                self.assertEqual(heap_piece(tuple(heap)), piece)

    def test_without_points(self):
        self.assertTrue(heap_piece(THREE).is_empty())
        self.assertTrue(heap_piece(APART).is_empty())
        for two in (THREE[:2], THREE[1:], THREE[::2]):
            self.assertFalse(heap_piece(two).is_empty())

    def test_moved(self):
        dice = seeded(102)
        tiles = tiles_of(Floor((0, 0)), (0, 0), 3)
        for _ in range(10):
            heap = some_heap(dice, tiles, 4)
            self.assertEqual(heap_piece(moved(heap, far_corner(12))).area(), heap_piece(heap).area())

    def test_wrong(self):
        for heap, index in bad_heaps():
            for deed in (heap_piece, held, lambda row: is_held(row, None), lambda row: is_held(row, ("bars", ()))):
                with self.assertRaises(BadHeap) as caught:
                    deed(heap)
                self.assertEqual(caught.exception.index, index)
                self.assertIsInstance(caught.exception, FloorError)

    def test_forty_are_let(self):
        tile = (ZERO, 0, 1)
        self.assertEqual(heap_piece([tile] * 40), lozenge(tile))
        self.assertEqual(held([tile] * 40)[0], "floor")


class TestHeld(unittest.TestCase):
    def test_example(self):
        heap = [((0, 4, 6, 4), 1, 3), ((1, 0, 0, -1), 1, 3), ((-1, 0, 0, 2), 0, 2)]
        self.assertEqual(
            [held(some)[0] for some in [heap, heap[:2], heap[1:], heap[::2]]], ["bars", "floor", "floor", "floor"])

    def assert_held(self, heap, told):
        self.assertTrue(judges.is_held(heap, told), (heap, told))
        self.assertIs(is_held(heap, told), True)
        self.assertIs(type(told), tuple)
        if told[0] == "floor":
            self.assertTrue(all([type(number) is Root for number in told[1]]))
            self.assertTrue(Floor(told[1]).has_tile(heap[0]) if heap else is_point(told[1]))
            self.assertLessEqual(digits(told[1]), 400)
        else:
            # At most three bounds, so the tiles of these alone do not lie in a floor.
            some = sorted(set([index // 4 for index, weight in told[1]]))
            self.assertLessEqual(len(some), 3)
            self.assertEqual(held([heap[index] for index in some])[0], "bars")

    def test_heaps_of_floors(self):
        dice = seeded(103)
        for shift in SHIFTS:
            tiles = tiles_of(Floor(shift), (0, 0), 5)
            for most in (1, 3, 12, 40):
                heap = some_heap(dice, tiles, most)
                told = held(heap)
                self.assertEqual(told[0], "floor")
                self.assert_held(heap, told)
                self.assertEqual(held(tuple(heap)), told)

    def test_strewn_heaps(self):
        dice = seeded(104)
        seen = {"floor": 0, "bars": 0}
        for turn in range(150):
            heap = random_heap(dice, (1, 2, HUGE)[turn % 3], dice.randint(0, 4))
            told = held(heap)
            self.assert_held(heap, told)
            lies = not heap or bool(surds.heap_polygon(heap))
            self.assertEqual(told[0], "floor" if lies else "bars")
            seen[told[0]] += 1
        self.assertGreater(min(seen.values()), 25, seen)

    def test_the_middle(self):
        dice = seeded(105)
        shifts = [(0, 0), (Root(3, 0, 11), Root(1, 0, 9)), (Root(-2, 0, 7), Root(1, 0, 3)), (Root(1, 0, 13), Root(-5, 0, 11))]
        floors = [tiles_of(Floor(shift), (0, 0), 7) for shift in shifts]
        found = 0
        while found < 5:
            heap = [dice.choice(tiles) for tiles in dice.sample(floors, 3)]
            if any([heap_piece(two).is_empty() for two in (heap[:2], heap[1:], heap[::2])]):
                continue
            told = held(heap)
            self.assert_held(heap, told)
            if told[0] == "bars":
                found += 1
                self.assertEqual(surds.heap_polygon(heap), [])
                self.assertEqual([index // 4 for index, weight in told[1]], [0, 1, 2])

    def test_three_among_many(self):
        told = held(THREE)
        self.assertEqual([index // 4 for index, weight in told[1]], [0, 1, 2])
        self.assert_held(THREE, told)
        # Tiles of a floor that has the first two do not bar them, so the third tile has to be among the bars.
        others = [tile for tile in tiles_of(Floor(held(THREE[:2])[1]), (0, 0), 4) if tile not in THREE][:37]
        heap = others + THREE
        self.assertEqual(len(heap), 40)
        told = held(heap)
        self.assert_held(heap, told)
        self.assertEqual(told[0], "bars")
        self.assertIn(39, [index // 4 for index, weight in told[1]])
        self.assertEqual(held(heap[:39])[0], "floor")

    def test_empty_heap(self):
        for heap in ([], ()):
            told = held(heap)
            self.assertEqual(told[0], "floor")
            self.assert_held(heap, told)
            self.assertIs(is_held(heap, ("floor", (0, 0))), True)
            self.assertIs(is_held(heap, ("bars", ((0, 1), (1, 1)))), False)

    def test_in_two_places_far_apart(self):
        dice = seeded(106)
        seen = {"floor": 0, "bars": 0}
        far = far_corner(60)
        self.assertGreater(max(map(abs, far)), 10 ** 20)
        floors = [Floor(shift) for shift in SHIFTS[:5]]
        for _ in range(60):
            here = some_heap(dice, tiles_of(dice.choice(floors[:3]), (0, 0), 2), 4)
            there = some_heap(dice, tiles_of(dice.choice(floors[:3]), place(far), 2), 4)
            told = held(here + there)
            self.assert_held(here + there, told)
            self.assertEqual(told[0], "floor" if surds.heap_polygon(here + there) else "bars")
            seen[told[0]] += 1
        self.assertGreater(min(seen.values()), 10, seen)

    def test_little_is_left(self):
        for shift in SHIFTS[:5]:
            for many in (3, 20, 54):
                heap = heap_about((Root(0, 0, 1) + shift[0], Root(0, 0, 1) + shift[1]), many)
                self.assertLess(max([len(str(abs(part))) for tile in heap for part in tile[0]]), 60)
                self.assertTrue(heap_piece(heap).area().less(Root(1, 0, 10 ** (2 * many - 2))))
                self.assertTrue(heap_piece(heap).has(shift))
                told = held(heap)
                self.assertEqual(told[0], "floor")
                self.assert_held(heap, told)
                self.assertEqual(held(heap * 10)[0], "floor")
                self.assertIs(is_held(heap, ("floor", shift)), True)
                self.assertIs(is_held(heap, ("floor", (shift[0] + Root(1, 0, 10 ** (many - 2) + 1), shift[1]))), False)

    def test_forty_in_time(self):
        tiles = tiles_of(Floor(SHIFTS[5]), (0, 0), 6)[:40]
        begin = time.monotonic()
        told = held(tiles)
        self.assertTrue(is_held(tiles, told))
        self.assertLess(time.monotonic() - begin, 5)

    def test_nothing_changes(self):
        for heap in (list(THREE), THREE[:2], tuple(THREE), []):
            kept = copy.deepcopy(heap)
            told = held(heap)
            self.assertEqual(held(heap), told)
            self.assertEqual(heap_piece(heap), heap_piece(heap))
            is_held(heap, told)
            self.assertEqual(heap, kept)


class TestIsHeld(unittest.TestCase):
    def judged(self, heap, thing):
        told = is_held(heap, thing)
        self.assertIs(told, judges.is_held(heap, thing), (heap, thing))
        return told

    def test_spoiled_papers(self):
        right = 0
        for heap in (THREE, THREE[:2], APART, APART[:1], THREE[::-1], []):
            paper = held(heap)
            for thing in judges.spoiled(paper):
                right += self.judged(heap, thing)
            for thing in judges.spoiled((paper[0], paper[1], 0)):
                self.judged(heap, thing)
        self.assertGreater(right, 0)

    def test_bars(self):
        heap = [(ZERO, 0, 2), (ZERO, 1, 3)]
        rows = [bound for tile in heap for bound in tile_bounds(tile)]
        self.assertEqual([d for d, number in rows], [1, 3, 5, 7, 0, 2, 4, 6])
        # Of the first tile y - x < h - 1, x - y < h + 1; of the second one x < 1/2, -x < 1/2, y < (1 + r) / 2,
        # -y < (1 - r) / 2: so y - x > -1 / 2 + (r - 1) / 2, which is the same as h - 1 and bars all.
        self.assertTrue(self.judged(heap, ("bars", ((1, 1), (4, 1), (7, 1)))))
        self.assertTrue(self.judged(heap, ("bars", ((1, 7), (4, 7), (7, 7)))))
        for thing in (
                ((1, 1), (4, 1)), ((1, 1), (7, 1), (4, 1)), ((1, 1), (4, 1), (4, 1)), ((1, 1), (4, 1), (8, 1)),
                ((1, 1), (4, 1), (-1, 1)), ((1, 0), (4, 0), (7, 0)), ((1, -1), (4, -1), (7, -1)),
                ((1, True), (4, 1), (7, 1)), ((True, 1), (4, 1), (7, 1)), [(1, 1), (4, 1), (7, 1)],
                ([1, 1], (4, 1), (7, 1)), ((1, 1, 1), (4, 1), (7, 1)), ((1, 1), (4, 1), (7, 2)), (), None,
                ((0, 1), (2, 1)), ((4, 1), (6, 1)), ((1, 1), (3, 1)), ((1, 1), (4, 1), (7, 1), (7, 1))):
            self.assertFalse(self.judged(heap, ("bars", thing)), thing)
        for thing in (["bars", ((1, 1), (4, 1), (7, 1))], ("bars", ((1, 1), (4, 1), (7, 1)), 0), ("bars",),
                      ("floor", ((1, 1), (4, 1), (7, 1))), (b"bars", ((1, 1), (4, 1), (7, 1))),
                      ("Bars", ((1, 1), (4, 1), (7, 1))), (((1, 1), (4, 1), (7, 1)), "bars")):
            self.assertFalse(self.judged(heap, thing), thing)

    def test_floors(self):
        heap = [(ZERO, 1, 3)]
        self.assertTrue(self.judged(heap, ("floor", (0, 1))))
        self.assertTrue(self.judged(heap, ("floor", (Root(0, 0, 1), 1))))
        self.assertTrue(self.judged(heap, ("floor", (Root(1, 0, 3), Root(0, 1, 3)))))
        for thing in ((0, 0), (0, 2), (1, 1), (0, 1.0), [0, 1], (0, 1, 0), (0,), (True, 1), (0, True), (False, 1), None,
                      (Root(1, 0, 2), 1), (0, Root(1, 0, 2)), (Root(0, 1, 2), Root(1, 0, 1)), ("0", 1), (None, 1)):
            self.assertFalse(self.judged(heap, ("floor", thing)), thing)

    def test_barred_shifts_within(self):
        heap = [(ZERO, 1, 3)]
        piece = heap_piece(heap)
        for shift in [(0, Root(1, 0, 2)), (Root(0, 1, 2) - 1, 1), (Root(1, 0, 2) - Root(0, 1, 2), Root(2, 0, 3))]:
            self.assertTrue(piece.has(shift))
            self.assertIsNotNone(barred(shift))
            self.assertFalse(self.judged(heap, ("floor", shift)))

    def test_papers_of_other_heaps(self):
        dice = seeded(107)
        heaps = [random_heap(dice, 1, dice.randint(0, 3)) for _ in range(14)]
        heaps += [THREE, THREE[:2], THREE[::-1], THREE + APART, APART + THREE, THREE[:1] + APART]
        papers = [held(heap) for heap in heaps]
        seen = {True: 0, False: 0}
        for heap in heaps:
            for paper in papers:
                seen[self.judged(heap, paper)] += 1
        self.assertGreater(min(seen.values()), 30)
        # A greater heap has the bars of a lesser one ahead; a lesser one lets each shift of a greater one.
        self.assertTrue(is_held(THREE + APART, held(THREE)))
        self.assertFalse(is_held(THREE[:2], held(THREE)))
        self.assertTrue(is_held(THREE[:1], held(THREE[:2])))

    def test_any_object(self):
        for heap in ([], THREE, APART[:1]):
            for thing in odd_things() + odd_tuples() + [1.5, 2j, {1}, frozenset(), R, Piece([]), Floor((0, 0))]:
                for paper in (thing, ("floor", thing), ("bars", thing), (thing, thing), (thing, (0, 1)), ("bars", (thing, thing))):
                    self.assertIs(is_held(heap, paper), False)

    def test_random_shifts(self):
        dice = seeded(108)
        seen = {True: 0, False: 0}
        for _ in range(300):
            heap = random_heap(dice, 1, dice.randint(0, 2))
            seen[self.judged(heap, ("floor", (some_root(dice, 4, 5), some_root(dice, 4, 5))))] += 1
        self.assertGreater(min(seen.values()), 20)


if __name__ == "__main__":
    unittest.main()
