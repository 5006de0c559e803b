import copy
import time
import unittest

import exact
import judges
import surds
from heaplets import (
    APART, THREE, ZERO, bad_heaps, far_corner, heap_about, moved, some_heap, tiles_of)
from samples import HUGE, odd_things, odd_tuples, seeded, some_corner
from test_floors import SHIFTS, bad_points, bad_sizes
from test_heaps import digits, random_heap
from test_tiles import WAYS, bad_tiles

from threetiles.corners import place
from threetiles.errors import BadHeap, BadPoint, BadSize, BadTile, EmptyHeap, EmptyPiece, FloorError, NotHeld
from threetiles.floors import Floor
from threetiles.heaps import heap_piece, held
from threetiles.lots import lozenge, tile_bounds, window
from threetiles.pieces import Piece
from threetiles.points import square, taken
from threetiles.roots import Root
from threetiles.words import is_word, nearest_open, possible, word, word_in

R = Root(0, 1, 1)
EMPTY = Piece([(0, 0), (4, 0)])
ALL = Piece([])


def held_heaps(dice, many, most):
    """Heaps, each of tiles of some floor, with that floor."""
    found = []
    for _ in range(many):
        floor = Floor(dice.choice(SHIFTS[:5]))
        found.append((some_heap(dice, tiles_of(floor, (0, 0), 4), most), floor))
    return found


class TestWord(unittest.TestCase):
    def assert_word(self, heap, tile):
        told = word(heap, tile)
        self.assertIs(type(told), tuple)
        self.assertTrue(judges.is_word(heap, tile, told), (heap, tile, told))
        self.assertIs(is_word(heap, tile, told), True)
        self.assertEqual(word_in(heap_piece(heap), tile), told[0])
        if told[0] == "open":
            self.assertLessEqual(max(map(digits, told[1:])), 400)
            self.assertTrue(all([type(number) is Root for shift in told[1:] for number in shift]))
        return told

    def test_example(self):
        heap = [((0, 0, 0, 0), 1, 3)]
        self.assertEqual(
            [word(heap, tile)[0] for tile in [heap[0], ((0, 0, 0, 0), 0, 2), ((0, 0, 0, 0), 0, 1)]],
            ["sure", "never", "open"])

    def test_all_words(self):
        dice = seeded(111)
        seen = {"never": 0, "sure": 0, "open": 0}
        for heap, floor in held_heaps(dice, 14, 8):
            near = tiles_of(floor, (0, 0), 4)
            strange = [(some_corner(dice, 2), *dice.choice(WAYS)) for _ in range(6)]
            for tile in dice.sample(near, 8) + strange:
                told = self.assert_word(heap, tile)
                self.assertEqual(told[0], surds.word_for(heap, tile))
                self.assertEqual(word(tuple(heap), tile), told)
                seen[told[0]] += 1
        self.assertGreater(min(seen.values()), 20, seen)

    def test_tiles_of_the_heap_are_sure(self):
        dice = seeded(112)
        for heap, _ in held_heaps(dice, 10, 6):
            for tile in heap:
                self.assertEqual(self.assert_word(heap, tile)[0], "sure")
                self.assertEqual(self.assert_word([tile], tile)[0], "sure")
                self.assertEqual(self.assert_word([tile, tile], tile)[0], "sure")

    def test_tiles_far_away(self):
        dice = seeded(113)
        seen = {"never": 0, "sure": 0, "open": 0}
        for many in (20, 60, 130):
            far = far_corner(many)
            for heap, floor in held_heaps(dice, 8, 12):
                there = tiles_of(floor, place(far), 2)
                for tile in dice.sample(there, 3):
                    for other in (tile, (moved([tile], (0, 1, 0, 0))[0]), (tile[0], *dice.choice(WAYS))):
                        told = self.assert_word(heap, other)
                        self.assertEqual(told[0], surds.word_for(heap, other))
                        seen[told[0]] += 1
        self.assertGreater(min(seen.values()), 15, seen)

    def test_presses_come_in_the_order_of_the_bounds(self):
        heap = [(ZERO, 1, 3), (ZERO, 0, 1)]
        for tile in heap:
            kind, presses = self.assert_word(heap, tile)
            self.assertEqual(kind, "sure")
            self.assertEqual(len(presses), 4)
            rows = [bound for part in heap for bound in tile_bounds(part)]
            for bound, (weight, rest) in zip(tile_bounds(tile), presses):
                self.assertTrue(judges.is_press(rows, bound, (weight, rest)))
            for other in judges.spoiled(presses):
                self.assertIs(is_word(heap, tile, ("sure", other)), judges.is_word(heap, tile, ("sure", other)))
            self.assertIs(is_word(heap, tile, ("sure", presses[1:] + presses[:1])), False)

    def test_bars_are_of_the_heap_and_then_of_the_tile(self):
        heap = [(ZERO, 0, 2)]
        kind, told = self.assert_word(heap, (ZERO, 1, 3))
        self.assertEqual(kind, "never")
        self.assertGreaterEqual(told[-1][0], 4)
        rows = [bound for part in (heap[0], (ZERO, 1, 3)) for bound in tile_bounds(part)]
        self.assertTrue(judges.is_bars(rows, told))

    def test_empty_heap(self):
        dice = seeded(114)
        for heap in ([], ()):
            for most in (2, HUGE):
                tile = (some_corner(dice, most), *dice.choice(WAYS))
                self.assertEqual(self.assert_word(heap, tile)[0], "open")

    def test_little_is_left(self):
        shift = (Root(1, 0, 3), Root(2, 1, 7))
        heap = heap_about(shift, 50)
        floor = Floor(shift)
        for tile in tiles_of(floor, (0, 0), 1):
            self.assertEqual(self.assert_word(heap, tile)[0], "sure")
            self.assertEqual(self.assert_word(heap[:2], tile)[0], surds.word_for(heap[:2], tile))
        dice = seeded(115)
        for _ in range(20):
            tile = (some_corner(dice, 1), *dice.choice(WAYS))
            self.assertEqual(self.assert_word(heap, tile)[0], "sure" if floor.has_tile(tile) else "never")
        # Squares with a side still closer to the shift than those of the heap are open.
        for tile in heap_about(shift, 54):
            self.assertEqual(self.assert_word(heap, tile)[0], "open")

    def test_forty_in_time(self):
        floor = Floor(SHIFTS[4])
        tiles = tiles_of(floor, (0, 0), 5)
        heap = tiles[:20] + tiles[-20:]
        self.assertEqual(len(heap), 40)
        begin = time.monotonic()
        for tile in tiles[::10]:
            told = word(heap, tile)
            self.assertIs(is_word(heap, tile, told), True)
        self.assertLess(time.monotonic() - begin, 10)

    def test_wrong(self):
        deeds = [word, lambda heap, tile: is_word(heap, tile, None)]
        for deed in deeds:
            for heap, index in bad_heaps():
                with self.assertRaises(BadHeap) as caught:
                    deed(heap, None)
                self.assertEqual(caught.exception.index, index)
                self.assertIsInstance(caught.exception, FloorError)
            for heap in (THREE, APART, tuple(APART), THREE * 13):
                for tile in (None, (ZERO, 0, 1)):
                    with self.assertRaises(NotHeld):
                        deed(heap, tile)
            for tile in bad_tiles():
                for heap in ([], APART[:1]):
                    with self.assertRaises(BadTile) as caught:
                        deed(heap, tile)
                    self.assertIs(caught.exception.tile, tile)

    def test_nothing_changes(self):
        for heap in (THREE[:2], tuple(THREE[1:]), []):
            for tile in [THREE[0], (ZERO, 0, 1), (ZERO, 1, 3)]:
                kept = copy.deepcopy(heap)
                told = word(heap, tile)
                self.assertEqual(word(heap, tile), told)
                is_word(heap, tile, told)
                self.assertEqual(heap, kept)


class TestIsWord(unittest.TestCase):
    def judged(self, heap, tile, thing):
        told = is_word(heap, tile, thing)
        self.assertIs(told, judges.is_word(heap, tile, thing), (heap, tile, thing))
        return told

    def test_spoiled_papers(self):
        dice = seeded(116)
        seen = {"never": 0, "sure": 0, "open": 0}
        right = 0
        for heap, floor in held_heaps(dice, 12, 3):
            tile = dice.choice([dice.choice(heap), (some_corner(dice, 1), *dice.choice(WAYS)),
                                dice.choice(tiles_of(floor, (0, 0), 3))])
            paper = word(heap, tile)
            if seen[paper[0]] == 2:
                continue
            seen[paper[0]] += 1
            for thing in judges.spoiled(paper):
                right += self.judged(heap, tile, thing)
        self.assertGreater(min(seen.values()), 0, seen)
        self.assertGreater(right, 0)

    def test_never(self):
        heap, tile = [(ZERO, 0, 2)], (ZERO, 1, 3)
        right = ((1, 1), (4, 1), (7, 1))
        self.assertTrue(self.judged(heap, tile, ("never", right)))
        self.assertTrue(self.judged(heap, tile, ("never", ((1, 5), (4, 5), (7, 5)))))
        for thing in (((1, 1), (7, 1), (4, 1)), ((1, 1), (4, 1)), ((1, 1), (1, 1), (4, 1)), ((1, 0), (4, 0), (7, 0)),
                      ((1, 1), (4, 1), (8, 1)), ((1, True), (4, 1), (7, 1)), list(right), ((1, 1), [4, 1], (7, 1)), ()):
            self.assertFalse(self.judged(heap, tile, ("never", thing)))
        for paper in (("sure", right), ("open", right), ("open", right, right), ["never", right], ("never", right, 0)):
            self.assertFalse(self.judged(heap, tile, paper))
        # In another order of heap and tile other bounds are meant.
        self.assertFalse(self.judged([tile], heap[0], ("never", right)))
        self.assertTrue(self.judged([tile], heap[0], ("never", ((0, 1), (3, 1), (5, 1)))))
        self.assertTrue(self.judged(heap + heap, tile, ("never", ((1, 1), (8, 1), (11, 1)))))
        self.assertFalse(self.judged(heap + heap, tile, ("never", right)))

    def test_sure(self):
        heap, tile = [(ZERO, 1, 3)], (ZERO, 1, 3)
        right = tuple([(1, ((index, 1),)) for index in range(4)])
        self.assertTrue(self.judged(heap, tile, ("sure", right)))
        self.assertTrue(self.judged(heap, tile, ("sure", tuple([(7, ((index, 7),)) for index in range(4)]))))
        self.assertTrue(self.judged(heap * 2, tile, ("sure", tuple([(2, ((k, 1), (k + 4, 1))) for k in range(4)]))))
        for thing in (right[:3], right + right[:1], right[::-1], list(right), (), None,
                      (right[0], right[1], right[2], [1, ((3, 1),)]), (right[0], right[1], right[2], (1, [(3, 1)])),
                      (right[0], right[1], right[2], (True, ((3, 1),))), (right[0], right[1], right[2], (0, ((3, 0),))),
                      (right[0], right[1], right[2], (1, ((4, 1),))), (right[0], right[1], right[2], (1, ((-1, 1),)))):
            self.assertFalse(self.judged(heap, tile, ("sure", thing)))

    def test_open(self):
        heap, tile = [(ZERO, 1, 3)], (ZERO, 0, 1)
        kind, one, other = word(heap, tile)
        self.assertEqual(kind, "open")
        self.assertTrue(self.judged(heap, tile, ("open", one, other)))
        self.assertFalse(self.judged(heap, tile, ("open", other, one)))
        self.assertFalse(self.judged(heap, tile, ("open", one, one)))
        self.assertFalse(self.judged(heap, tile, ("open", other, other)))
        self.assertFalse(self.judged(heap, tile, ("open", one, (9, 9))))
        self.assertFalse(self.judged(heap, tile, ("open", (9, 9), other)))
        self.assertFalse(self.judged(heap, tile, ("open", one, list(other))))
        self.assertFalse(self.judged(heap, tile, ("open", one)))
        self.assertFalse(self.judged(heap, tile, ("open", one, other, other)))
        self.assertTrue(self.judged([], tile, ("open", one, other)))
        # Barred shifts are none, also within the heap's piece.
        self.assertFalse(self.judged(heap, tile, ("open", one, (Root(0, 1, 2), 1))))
        self.assertFalse(self.judged(heap, tile, ("open", (Root(1, 0, 3), Root(1, 0, 2)), other)))
        self.assertTrue(self.judged([], (ZERO, 1, 3), ("open", (0, 1), (0, 3))))

    def test_papers_of_other_heaps(self):
        dice = seeded(117)
        seen = {True: 0, False: 0}
        tiles = [(ZERO, 0, 1), (ZERO, 1, 3), ((0, 1, 0, -1), 0, 2), ((1, 0, 0, 0), 2, 3)]
        floor_tiles = tiles_of(Floor((0, 0)), (0, 0), 2)
        heaps = [[], [floor_tiles[0]], *[some_heap(dice, floor_tiles, 4) for _ in range(3)]]
        heaps += [heaps[-1] + floor_tiles[:2], heaps[-2][:1]]
        papers = [word(heap, tile) for heap in heaps for tile in tiles]
        for heap in heaps:
            for tile in tiles:
                for paper in papers:
                    seen[self.judged(heap, tile, paper)] += 1
        self.assertGreater(min(seen.values()), 60, seen)

    def test_any_object(self):
        for thing in odd_things() + odd_tuples() + [1.5, 2j, {1}, R, ALL, Floor((0, 0))]:
            for heap in ([], APART[:1], THREE[:2]):
                for paper in (thing, ("never", thing), ("sure", thing), ("open", thing, thing), ("open", (0, 1), thing),
                              ("sure", (thing,) * 4), (thing, thing)):
                    self.assertIs(is_word(heap, (ZERO, 1, 3), paper), False)


class TestWordIn(unittest.TestCase):
    def test_pieces(self):
        tile = (ZERO, 1, 3)
        shape = lozenge(tile)
        self.assertEqual(word_in(shape, tile), "sure")
        self.assertEqual(word_in(shape.grown(Root(1, 0, 2)).led((0, Root(0, 1, 4))), tile), "sure")
        self.assertEqual(word_in(window(), tile), "open")
        self.assertEqual(word_in(ALL, tile), "open")
        self.assertEqual(word_in(shape.led((1, 0)), tile), "never")
        self.assertEqual(word_in(shape.led((1 - Root(1, 0, 10 ** 40), 0)), tile), "open")
        self.assertEqual(word_in(shape.led((Root(1, 0, 10 ** 40), 0)), tile), "open")
        # Half planes on either side of it, and those that touch it.
        for d, number in tile_bounds(tile):
            self.assertEqual(word_in(Piece([(d, number)]), tile), "open")
            self.assertEqual(word_in(Piece([((d + 4) % 8, -number)]), tile), "never")
            self.assertEqual(word_in(Piece([((d + 4) % 8, -number + Root(1, 0, 10 ** 40))]), tile), "open")

    def test_some(self):
        dice = seeded(118)
        seen = {"never": 0, "sure": 0, "open": 0}
        near = [corner for corner in Floor((0, 0)).near((0, 0), 9) if exact.has_corner((Root(1, 0, 3), Root(1, 0, 5)), corner)]
        for _ in range(300):
            piece = window().grown(Root(1, 0, dice.randint(2, 9))).led(
                (Root(dice.randint(-9, 9), 0, 9), Root(dice.randint(-9, 9), 0, 9)))
            tile = (dice.choice(near), *dice.choice(WAYS))
            polygon, sides = surds.polygon_of(piece), surds.sides_of_lozenge(tile)
            expected = "open"
            if not surds.met(polygon, sides):
                expected = "never"
            elif surds.lies_in(polygon, sides):
                expected = "sure"
            self.assertEqual(word_in(piece, tile), expected)
            seen[expected] += 1
        self.assertGreater(min(seen.values()), 8, seen)

    def test_wrong(self):
        for tile in bad_tiles() + [(ZERO, 0, 1)]:
            with self.assertRaises(EmptyPiece):
                word_in(EMPTY, tile)
        for tile in bad_tiles():
            for piece in (ALL, window()):
                with self.assertRaises(BadTile) as caught:
                    word_in(piece, tile)
                self.assertIs(caught.exception.tile, tile)


def open_and_sure(heap, point, size):
    """Tuples (corner, square, tile, word) of the possible tiles, by a search that goes farther than it must."""
    found = []
    polygon = surds.heap_polygon(heap)
    shift = held(heap)[1]
    # Floors with the heap have their shifts less than 2 away, and the windows at these nine reach farther.
    seen = set()
    for dx in (-2, 0, 2):
        for dy in (-2, 0, 2):
            floor = Floor((shift[0] + dx + Root(1, 0, 10 ** 9 + 7), shift[1] + dy + Root(1, 0, 10 ** 9 + 9)))
            seen.update(floor.near(point, size))
    for corner in sorted(seen):
        far = square(taken(place(corner), point))
        for i, j in WAYS:
            told = surds.word_by(polygon, (corner, i, j))
            if told != "never":
                found.append((corner, far, (corner, i, j), told))
    return found


class TestPossible(unittest.TestCase):
    def test_some(self):
        dice = seeded(119)
        for turn, (heap, floor) in enumerate(held_heaps(dice, 6, 4)):
            point = (Root(dice.randint(-9, 9), dice.randint(-1, 1), 5), dice.randint(-1, 1))
            size = turn % 4
            told = possible(heap, point, size)
            self.assertIs(type(told), list)
            expected = [(tile, said) for corner, far, tile, said in open_and_sure(heap, point, size)]
            self.assertEqual(told, expected)
            self.assertEqual(told, sorted(told))
            self.assertEqual(possible(tuple(heap), point, size), told)

    def test_tiles_of_floors_with_the_heap_are_possible(self):
        dice = seeded(120)
        for heap, floor in held_heaps(dice, 5, 12):
            told = dict(possible(heap, (1, R), 3))
            self.assertEqual(set(told.values()) | {"sure"}, {"sure", "open"})
            near = tiles_of(floor, (1, R), 3)
            for tile in near:
                self.assertIn(tile, told)
            for tile, said in told.items():
                self.assertTrue(exact.at_most(tile[0], (1, R), 3))
                if said == "sure":
                    self.assertIn(tile, near)
                    self.assertEqual(word(heap, tile)[0], "sure")
                else:
                    self.assertEqual(word(heap, tile)[0], "open")

    def test_stars_all_around(self):
        for corner in [(9, 0, 0, 0), (0, 9, 0, 0), (0, 0, 9, 0), (0, 0, 0, 9), (-9, 0, 0, 0), (0, -9, 0, 0), (0, 0, -9, 0),
                       (0, 0, 0, -9)]:
            heap = [(corner, 0, 2)]
            expected = [(tile, said) for _, far, tile, said in open_and_sure(heap, place(corner), 1)]
            self.assertEqual(possible(heap, place(corner), 1), expected)

    def test_size_0(self):
        heap = [(ZERO, 1, 3)]
        told = possible(heap, (0, 0), 0)
        self.assertEqual(told, [((ZERO, i, j), surds.word_for(heap, (ZERO, i, j))) for i, j in WAYS
                                if surds.word_for(heap, (ZERO, i, j)) != "never"])
        self.assertIn(((ZERO, 1, 3), "sure"), told)
        self.assertNotIn((ZERO, 0, 2), [tile for tile, said in told])
        self.assertEqual(possible(heap, (Root(1, 0, 10 ** 50), 0), 0), [])
        self.assertEqual(possible(heap, (HUGE, 0), 0), [])
        # The own corner that lies at the place (1 + r, 0).
        there = [tile for tile, said in possible([((1, 1, 0, -1), 0, 1)], (Root(1, 1, 1), 0), 0)]
        self.assertIn(((1, 1, 0, -1), 0, 1), there)

    def test_just_at_the_size_and_just_beyond(self):
        heap = [((3, 0, 0, 0), 0, 1)]
        for size in (1, 2, 3):
            for point, within in [((3 - size, 0), True), ((3 + size, 0), True), ((3, size), True), ((3, -size), True),
                                  ((3 - size - Root(1, 0, 10 ** 40), 0), False), ((3, size + Root(1, 0, 10 ** 40)), False),
                                  ((3 - size + Root(1, 0, 10 ** 40), 0), True)]:
                told = [tile for tile, said in possible(heap, point, size)]
                self.assertIs(heap[0] in told, within)
        # 3 * h along x and 3 * h along y is 3 away, too.
        self.assertIn(((0, 0, 0, 0), 0, 1), [tile for tile, said in possible([(ZERO, 0, 1)], (Root(0, 3, 2), Root(0, 3, 2)), 3)])
        self.assertNotIn(((0, 0, 0, 0), 0, 1), [
            tile for tile, said in possible([(ZERO, 0, 1)], (Root(1, 3 * 10 ** 40, 2 * 10 ** 40), Root(0, 3, 2)), 3)])

    def test_far_from_the_heap(self):
        far = far_corner(70)
        heap = tiles_of(Floor((0, 0)), (0, 0), 1)
        told = possible(heap, place(far), 2)
        for tile in tiles_of(Floor((0, 0)), place(far), 2):
            self.assertIn(tile, [part for part, said in told])
        for tile, said in told:
            self.assertEqual(surds.word_for(heap, tile), said)

    def test_in_time(self):
        heap = [(ZERO, 1, 3)]
        begin = time.monotonic()
        told = possible(heap, (Root(1, 1, 3), 2), 3)
        tiles = tiles_of(Floor((0, 0)), (0, 0), 4)[:40]
        possible(tiles, (0, 0), 3)
        self.assertLess(time.monotonic() - begin, 10)
        self.assertGreater(len(told), 100)

    def test_wrong(self):
        for deed, most in ((possible, 3), (nearest_open, 4)):
            for heap, index in bad_heaps():
                with self.assertRaises(BadHeap) as caught:
                    deed(heap, None, None)
                self.assertEqual(caught.exception.index, index)
            for heap in (THREE, tuple(APART)):
                for point, size in [((0, 0), 0), (None, None)]:
                    with self.assertRaises(NotHeld):
                        deed(heap, point, size)
            for heap in ([], ()):
                for point, size in [((0, 0), 0), (None, None), ((0, 0), 9)]:
                    with self.assertRaises(EmptyHeap):
                        deed(heap, point, size)
            for point in bad_points():
                for size in (1, None):
                    with self.assertRaises(BadPoint) as caught:
                        deed(APART[:1], point, size)
                    self.assertIs(caught.exception.point, point)
            for size in bad_sizes(most):
                with self.assertRaises(BadSize) as caught:
                    deed(APART[:1], (0, 0), size)
                self.assertIs(caught.exception.size, size)
            deed(APART[:1], (0, 0), most)

    def test_nothing_changes(self):
        heap = THREE[:2]
        kept = copy.deepcopy(heap)
        told = possible(heap, (0, 0), 1)
        again = possible(heap, (0, 0), 1)
        self.assertEqual(told, again)
        self.assertIsNot(told, again)
        told.clear()
        self.assertEqual(possible(heap, (0, 0), 1), again)
        self.assertEqual(nearest_open(heap, (0, 0), 2), nearest_open(heap, (0, 0), 2))
        self.assertEqual(heap, kept)


class TestNearestOpen(unittest.TestCase):
    def test_some(self):
        dice = seeded(121)
        seen = 0
        for turn, (heap, floor) in enumerate(held_heaps(dice, 10, 6)):
            point = (Root(dice.randint(-9, 9), dice.randint(-1, 1), 5), dice.randint(-1, 1))
            most = turn % 5
            expected = None
            for corner, far, tile, said in open_and_sure(heap, point, most):
                if said == "open" and (expected is None or (far, tile) < (expected[0], expected[1])):
                    expected = (surds.surd(far), tile)
            told = nearest_open(heap, point, most)
            self.assertEqual(told, expected and expected[1])
            self.assertEqual(nearest_open(tuple(heap), point, most), told)
            seen += told is None
        self.assertTrue(0 < seen < 9, seen)

    def test_none(self):
        heap = heap_about((Root(1, 0, 3), Root(2, 1, 7)), 30)
        self.assertIsNone(nearest_open(heap, (0, 0), 4))
        self.assertIsNone(nearest_open([(ZERO, 1, 3)], (Root(1, 0, 3), 0), 0))
        self.assertIsNone(nearest_open([(ZERO, 1, 3)], (HUGE, 0), 0))

    def test_size_0(self):
        self.assertEqual(nearest_open([(ZERO, 1, 3)], (0, 0), 0), (ZERO, 0, 1))
        self.assertEqual(nearest_open([((3, 1, 4, 1), 1, 3)], place((3, 1, 4, 1)), 0), ((3, 1, 4, 1), 0, 1))

    def test_of_two_equally_near_the_least(self):
        heap = [(ZERO, 1, 3)]
        found = 0
        for point in [(Root(1, 0, 2), 0), (0, Root(1, 0, 2)), (Root(5, 0, 2), 1), (Root(1, 0, 2), 2), (Root(1, 1, 2), 0),
                      (Root(3, 2, 2), Root(1, 0, 2)), (Root(0, 1, 4), Root(0, 1, 4)), (Root(0, -1, 4), Root(0, 1, 4))]:
            near = [(far, tile) for corner, far, tile, said in open_and_sure(heap, point, 2) if said == "open"]
            least = min([surds.surd(far) for far, tile in near], key=lambda far: LessKey(far))
            tied = [tile for far, tile in near if surds.surd(far) == least]
            self.assertEqual(nearest_open(heap, point, 2), min(tied))
            found += len({tile[0] for tile in tied}) > 1
        self.assertGreater(found, 2)

    def test_just_at_the_size_and_just_beyond(self):
        heap = [(ZERO, 1, 3)]
        for most in (1, 2, 3, 4):
            told = nearest_open(heap, (-most, 0), most)
            near = [tile for corner, far, tile, said in open_and_sure(heap, (-most, 0), most) if said == "open"]
            self.assertIn(told, near)
        # All open tiles near this point have own corners at the places (0, 0) or farther off.
        little = Root(1, 0, 10 ** 45)
        small = [tile for tile, said in possible(heap, (0, 0), 0) if said == "open"]
        self.assertTrue(small)
        self.assertEqual(nearest_open(heap, (0, 0), 0), small[0])
        self.assertIsNone(nearest_open(heap, (little, 0), 0))

    def test_in_time(self):
        tiles = tiles_of(Floor((0, 0)), (0, 0), 4)[:40]
        begin = time.monotonic()
        nearest_open(tiles, (0, 0), 4)
        nearest_open(tiles[:1], (9, 9), 4)
        self.assertLess(time.monotonic() - begin, 10)


class LessKey:
    """Lets min and sorted ask for the order of Surds alone."""

    def __init__(self, number):
        self.number = number

    def __lt__(self, other):
        return self.number < other.number


if __name__ == "__main__":
    unittest.main()
