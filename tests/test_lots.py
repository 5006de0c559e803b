import time
import unittest
from itertools import combinations

import exact
import surds
from judges import has_tile
from samples import HUGE, odd_things, odd_tuples, seeded, some_corner, some_root
from test_floors import SHIFTS
from test_pieces import SQUARE, TINY, TRIANGLE, small_rows
from test_tiles import WAYS, ZERO, bad_tiles

from threetiles.corners import star
from threetiles.errors import BadLot, BadTile, FloorError
from threetiles.floors import Floor, barred
from threetiles.lots import covered, left_of, lozenge, tile_bounds, window
from threetiles.pieces import Piece
from threetiles.points import added, taken
from threetiles.roots import Root

R = Root(0, 1, 1)
H = Root(0, 1, 2)
# A shift on a barred line, moved by so little across it, is not barred any more.
LITTLE = Root(1, 0, 10 ** 50 + 1)
EMPTY = Piece([(0, 0), (4, 0)])
HALF_PLANE = Piece([(0, 1)])


def box(low, down, high, up):
    return Piece([(0, high), (2, up), (4, -low), (6, -down)])


def bad_pieces():
    """What is no bounded Piece."""
    return odd_things() + odd_tuples() + [
        0, R, [], SQUARE, HALF_PLANE, Piece([]), Piece(SQUARE[:3]), Floor((0, 0)), [Piece(SQUARE)], "Piece"]


def some_piece(dice):
    while True:
        piece = Piece([(d, some_root(dice, 9, 4) + 4) for d in range(8) if dice.random() < 0.8])
        if piece.is_bounded():
            return piece


class TestWindow(unittest.TestCase):
    def test_area(self):
        self.assertEqual(window().area(), Root(2, 2, 1))
        self.assertIs(window().area() == Root(2, 2, 1), True)
        self.assertIsInstance(window(), Piece)

    def test_bounds(self):
        edge, far = Root(1, 1, 2), Root(2, 1, 2)
        self.assertEqual(window().bounds, (edge, far) * 4)
        self.assertEqual(surds.area(surds.window_polygon()), surds.Surd(2, 2))

    def test_stars_of_corners(self):
        dice = seeded(81)
        seen = {True: 0, False: 0}
        for shift in SHIFTS:
            floor = Floor(shift)
            for corner in floor.near((0, 0), 3) + [some_corner(dice, 2) for _ in range(30)]:
                inside = window().has(taken(star(corner), shift))
                self.assertIs(inside, floor.has_corner(corner))
                seen[inside] += 1
        self.assertGreater(min(seen.values()), 40)


class TestTileBounds(unittest.TestCase):
    def test_ordinary(self):
        # A square of the directions 0 and 2: v and w are the stars of 1 and 3, (-h, h) and (h, h).
        self.assertEqual(tile_bounds((ZERO, 0, 2)), (
            (1, H), (3, H - 1), (5, H), (7, H + 1)))
        # Of the directions 1 and 3: v and w are the stars of 0 and 2, (1, 0) and (0, -1).
        self.assertEqual(tile_bounds((ZERO, 1, 3)), (
            (0, Root(1, 0, 2)), (2, Root(1, 1, 2)), (4, Root(1, 0, 2)), (6, Root(1, -1, 2))))
        # Of the directions 0 and 1: v and w are the stars of 2 and 3, (0, -1) and (h, h); m is ((1 - h) / 2, h / 2).
        self.assertEqual(tile_bounds((ZERO, 0, 1)), (
            (0, Root(1, 0, 2)), (3, H), (4, H - Root(1, 0, 2)), (7, 1 - H)))

    def test_four_ascending_of_roots(self):
        dice = seeded(82)
        for most in (3, 10 ** 6, HUGE):
            for i, j in WAYS:
                tile = (some_corner(dice, most), i, j)
                told = tile_bounds(tile)
                self.assertIs(type(told), tuple)
                self.assertEqual(len(told), 4)
                ways = [d for d, number in told]
                self.assertEqual(ways, sorted(set(ways)))
                for bound, other in zip(told, surds.sides_of_lozenge(tile)):
                    self.assertIs(type(bound), tuple)
                    self.assertIs(type(bound[1]), Root)
                    self.assertEqual((bound[0], surds.surd(bound[1])), other)
                self.assertEqual(tile_bounds(tile), told)

    def test_directions_of_each_sort(self):
        ways = [tuple([d for d, number in tile_bounds((ZERO, i, j))]) for i, j in WAYS]
        self.assertEqual(ways, [(0, 3, 4, 7), (1, 3, 5, 7), (0, 1, 4, 5), (2, 3, 6, 7), (0, 2, 4, 6), (1, 2, 5, 6)])

    def test_wrong(self):
        for thing in bad_tiles():
            for deed in (tile_bounds, lozenge):
                with self.assertRaises(BadTile) as caught:
                    deed(thing)
                self.assertIs(caught.exception.tile, thing)
                self.assertIsInstance(caught.exception, FloorError)


class TestLozenge(unittest.TestCase):
    def test_shape(self):
        dice = seeded(83)
        for most in (4, HUGE):
            for i, j in WAYS:
                tile = (some_corner(dice, most), i, j)
                piece = lozenge(tile)
                self.assertIsInstance(piece, Piece)
                self.assertEqual(Piece(tile_bounds(tile)), piece)
                corners = [tuple([surds.surd(number) for number in point]) for point in piece.corners()]
                polygon = surds.lozenge_of(tile)
                self.assertEqual(len(corners), 4)
                for point in corners:
                    self.assertIn(point, polygon)
                # Two stars span 1 if they are a quarter of a round apart, otherwise h.
                self.assertEqual(piece.area(), 1 if (j - i) == 2 else H)

    def test_floors_have_a_tile_if_their_shift_lies_in_it(self):
        dice = seeded(84)
        seen = {True: 0, False: 0}
        for _ in range(150):
            i, j = dice.choice(WAYS)
            corner = some_corner(dice, dice.choice([2, 50, HUGE]))
            piece = lozenge((corner, i, j))
            near = piece.let_point()
            for _ in range(4):
                off = (Root(dice.randint(-9, 9), dice.randint(-2, 2), 11), Root(dice.randint(-9, 9), dice.randint(-2, 2), 11))
                shift = added(near, off)
                if barred(shift) is not None:
                    continue
                inside = piece.has(shift)
                self.assertIs(inside, has_tile(shift, (corner, i, j)))
                self.assertIs(inside, Floor(shift).has_tile((corner, i, j)))
                seen[inside] += 1
        self.assertGreater(min(seen.values()), 60)

    def test_tiles_of_floors(self):
        for shift in SHIFTS:
            floor = Floor(shift)
            for corner in floor.near((0, 0), 2):
                for tile in floor.tiles_at(corner):
                    self.assertIs(lozenge(tile).has(shift), True)

    def test_just_inside_and_just_outside(self):
        for i, j in WAYS:
            piece = lozenge(((3, -1, 2, 5), i, j))
            corners = piece.corners()
            for at, one in enumerate(corners):
                # The middle of a side, moved by very little along x or y, lies on either side of it.
                x, y = [(part + more).over(2) for part, more in zip(one, corners[at - 1])]
                seen = []
                for off in [(LITTLE, 0), (-LITTLE, 0), (0, LITTLE), (0, -LITTLE)]:
                    shift = added((x, y), off)
                    if barred(shift) is None:
                        inside = exact_has(shift, ((3, -1, 2, 5), i, j))
                        self.assertIs(piece.has(shift), inside)
                        seen.append(inside)
                self.assertIn(True, seen)
                self.assertIn(False, seen)
                self.assertIs(piece.has((x, y)), False)

    def test_rims_are_barred(self):
        dice = seeded(85)
        for i, j in WAYS:
            corners = lozenge((some_corner(dice, 30), i, j)).corners()
            for one, other in zip(corners, corners[1:] + corners[:1]):
                for part in (0, 1, Root(1, 0, 3), Root(2, 1, 7), -5, Root(9, 0, 2)):
                    point = added(one, tuple([part * (b - a) for a, b in zip(one, other)]))
                    self.assertIsNotNone(barred(point))


def exact_has(shift, tile):
    corner, i, j = tile
    ends = [corner, exact.moved(corner, i), exact.moved(corner, j), exact.moved(exact.moved(corner, i), j)]
    return all([exact.has_corner(shift, end) for end in ends])


class TestLeftOf(unittest.TestCase):
    def assert_left(self, piece, lot, told):
        """Judges what is left: pieces with points, apart, outside of the lot, with all the area there is."""
        self.assertIs(type(told), list)
        polygons = [surds.polygon_of(part) for part in told]
        for part, polygon in zip(told, polygons):
            self.assertIsInstance(part, Piece)
            self.assertFalse(part.is_empty())
            self.assertTrue(part.is_bounded())
            self.assertTrue(surds.lies_in(polygon, surds.rows_of(piece)))
            for other in lot:
                if not other.is_empty():
                    self.assertEqual(surds.met(polygon, surds.rows_of(other)), [])
        for (_, polygon), (other, _) in combinations(list(zip(told, polygons)), 2):
            self.assertEqual(surds.met(polygon, surds.rows_of(other)), [])
        areas = surds.Surd(0)
        for polygon in polygons:
            areas = areas + surds.area(polygon)
        rows = [surds.rows_of(other) for other in lot if not other.is_empty()]
        self.assertEqual(areas, surds.area_left(surds.polygon_of(piece), rows))

    def test_some(self):
        dice = seeded(86)
        seen = {True: 0, False: 0}
        for turn in range(120):
            piece = some_piece(dice)
            lot = [some_piece(dice) for _ in range(dice.randint(0, 5))]
            told = left_of(piece, lot)
            self.assert_left(piece, lot, told)
            self.assertIs(covered(piece, lot), told == [])
            self.assertEqual(left_of(piece, tuple(lot)), told)
            self.assertEqual(covered(piece, tuple(lot)), told == [])
            seen[told == []] += 1
        self.assertGreater(min(seen.values()), 10, seen)

    def test_lozenges_in_the_window(self):
        dice = seeded(87)
        for shift in SHIFTS[:3]:
            floor = Floor(shift)
            lot = [lozenge(tile) for corner in floor.near((0, 0), 1) for tile in floor.tiles_at(corner)][:6]
            piece = window().led(shift)
            self.assert_left(piece, lot, left_of(piece, lot))
            self.assertIs(covered(piece, lot), False)
        tiles = [(some_corner(dice, 1), *dice.choice(WAYS)) for _ in range(12)]
        self.assert_left(window(), [lozenge(tile) for tile in tiles], left_of(window(), [lozenge(tile) for tile in tiles]))

    def test_covered_but_for_lines(self):
        whole = box(0, 0, 2, 2)
        lot = [box(0, 0, 1, 2), box(1, 0, 2, 2)]
        self.assertEqual(left_of(whole, lot), [])
        self.assertIs(covered(whole, lot), True)
        # Along the line x = 1 no point lies in the lot.
        self.assertFalse(any([part.has((1, 1)) for part in lot]))
        slant = whole.parted((1, 2))
        self.assertIs(covered(whole, slant), True)
        self.assertIs(covered(whole, list(slant)), True)
        four = [part for half in slant for part in half.parted((3, 0))]
        self.assertIs(covered(whole, four), True)
        self.assertIs(covered(whole, four[1:]), False)
        self.assertEqual(left_of(whole, four[1:]), four[:1])

    def test_something_left(self):
        whole = box(0, 0, 2, 2)
        self.assertEqual(left_of(whole, [box(0, 0, 1, 2)]), [box(1, 0, 2, 2)])
        self.assertEqual(left_of(whole, [box(0, 0, 2 - TINY, 2)]), [box(2 - TINY, 0, 2, 2)])
        self.assertIs(covered(whole, [box(0, 0, 2 - TINY, 2)]), False)
        self.assertIs(covered(whole, [box(0, 0, 2, 2)]), True)
        self.assertIs(covered(whole, [box(-1, -1, 3, 3)]), True)
        hole = left_of(whole, [box(TINY, TINY, 2 - TINY, 2 - TINY)])
        self.assert_left(whole, [box(TINY, TINY, 2 - TINY, 2 - TINY)], hole)
        self.assertGreater(len(hole), 1)

    def test_touching_in_lines_alone(self):
        whole = box(0, 0, 1, 1)
        for other in (box(1, 0, 2, 1), box(1, 1, 2, 2), Piece([(5, -2), (0, 5), (2, 5)]), box(0, -1, 1, 0)):
            self.assertEqual(left_of(whole, [other]), [whole])
            self.assertIs(covered(whole, [other]), False)

    def test_corners_cut_nothing(self):
        # An octagon touches the lines of a square in mere corners, and the other way round.
        square = Piece([(1, 1), (3, 1), (5, 1), (7, 1)])
        told = left_of(box(-3, -3, 3, 3), [square])
        self.assert_left(box(-3, -3, 3, 3), [square], told)
        self.assertIs(covered(square, [box(-1, -1, 1, 1)]), True)
        self.assert_left(window(), [square], left_of(window(), [square]))

    def test_empty_ones(self):
        whole = Piece(SQUARE)
        self.assertEqual(left_of(whole, []), [whole])
        self.assertEqual(left_of(whole, ()), [whole])
        self.assertIs(covered(whole, []), False)
        self.assertEqual(left_of(whole, [EMPTY, EMPTY]), [whole])
        self.assertEqual(left_of(EMPTY, []), [])
        self.assertEqual(left_of(EMPTY, [whole, EMPTY]), [])
        self.assertIs(covered(EMPTY, []), True)
        self.assertIs(covered(EMPTY, (EMPTY,)), True)
        self.assertIs(covered(whole, [EMPTY]), False)

    def test_same_piece_twice(self):
        whole = Piece(TRIANGLE)
        part = Piece(SQUARE)
        self.assertEqual(left_of(whole, [part, part]), left_of(whole, [part]))
        self.assertIs(covered(part, [part] * 12), True)

    def test_twelve(self):
        dice = seeded(88)
        lot = [Piece([(d, Root(dice.randint(1, 999999), dice.randint(0, 99999), 999983)) for d in range(8)]).led(
            (Root(dice.randint(-2, 2), 0, 1), Root(dice.randint(-2, 2), 0, 1))) for _ in range(12)]
        piece = box(-3, -3, 3, 3)
        begin = time.monotonic()
        told = left_of(piece, lot)
        self.assertLess(time.monotonic() - begin, 10)
        self.assert_left(piece, lot, told)
        self.assertIs(covered(piece, lot), False)
        self.assertIs(covered(piece, lot[:11] + [piece]), True)
        strips = [box(Root(k, 0, 4), -3, Root(k + 1, 0, 4), 3) for k in range(-12, 12, 2)]
        self.assertEqual(len(strips), 12)
        self.assertEqual(len(left_of(piece, strips)), 12)
        self.assertIs(covered(box(Root(-3, 0, 1), -3, Root(-11, 0, 4), 3), strips), True)

    def test_what_was_returned_may_be_passed_on(self):
        piece = box(-3, -3, 3, 3)
        told = left_of(piece, [box(Root(k, 0, 4), Root(k, 0, 4), Root(2 * k + 1, 0, 8), Root(2 * k + 1, 0, 8))
                               for k in range(-12, 12, 2)])
        self.assertGreater(len(told), 12)
        self.assert_left(piece, told, left_of(piece, told))
        self.assertEqual(left_of(piece, (told * 30)[:400]), left_of(piece, told))

    def test_four_hundred(self):
        cells = [box(x, y, x + 1, y + 1) for x in range(20) for y in range(20)]
        whole = box(0, 0, 20, 20)
        begin = time.monotonic()
        self.assertIs(covered(whole, cells), True)
        self.assertEqual(left_of(whole, cells[:399]), cells[399:])
        self.assertLess(time.monotonic() - begin, 10)

    def test_wrong_piece(self):
        for thing in bad_pieces():
            for lot in ([], [Piece(SQUARE)], None, [None], [EMPTY] * 401):
                for deed in (left_of, covered):
                    with self.assertRaises(BadLot) as caught:
                        deed(thing, lot)
                    self.assertEqual(caught.exception.index, -2)
                    self.assertIsInstance(caught.exception, FloorError)

    def test_wrong_row(self):
        rows = [thing for thing in odd_things() if not isinstance(thing, list)] + [0, R, Piece(SQUARE), Floor((0, 0))]
        rows += [[EMPTY] * 401, (EMPTY,) * 401, [None] + [EMPTY] * 400, [EMPTY] * 400 + [None]]
        for thing in rows:
            for piece in (Piece(SQUARE), EMPTY):
                for deed in (left_of, covered):
                    with self.assertRaises(BadLot) as caught:
                        deed(piece, thing)
                    self.assertEqual(caught.exception.index, -1)

    def test_wrong_item(self):
        for thing in bad_pieces():
            for at in (0, 2, 4):
                for piece in (Piece(SQUARE), EMPTY):
                    lot = [Piece(SQUARE), EMPTY, Piece(TRIANGLE), Piece(SQUARE)]
                    lot.insert(at, thing)
                    for row in (lot + [None], tuple(lot) + (HALF_PLANE,)):
                        for deed in (left_of, covered):
                            with self.assertRaises(BadLot) as caught:
                                deed(piece, row)
                            self.assertEqual(caught.exception.index, at)
        with self.assertRaises(BadLot) as caught:
            covered(EMPTY, [EMPTY] * 399 + [None])
        self.assertEqual(caught.exception.index, 399)

    def test_nothing_changes(self):
        lot = [Piece(SQUARE), Piece(TRIANGLE)]
        kept = list(lot)
        rows = [piece.bounds for piece in lot]
        piece = window()
        told = left_of(piece, lot)
        again = left_of(piece, lot)
        self.assertEqual(lot, kept)
        self.assertEqual([piece.bounds for piece in lot], rows)
        self.assertEqual(piece, window())
        self.assertEqual(told, again)
        self.assertIsNot(told, again)
        told.append(None)
        self.assertEqual(left_of(piece, lot), again)
        bare = []
        self.assertIsNot(left_of(piece, bare), left_of(piece, bare))
        self.assertEqual(bare, [])
        self.assertIsNot(left_of(EMPTY, bare), bare)


class TestSmallRows(unittest.TestCase):
    def test_points_lie_in_the_lot_or_in_what_is_left(self):
        dice = seeded(90)
        for _ in range(40):
            piece = box(-2, -2, 2, 2)
            lot = [part for part in [Piece(small_rows(dice, 7)) for _ in range(6)] if part.is_bounded()]
            told = left_of(piece, lot)
            for _ in range(20):
                point = (Root(dice.randint(-1999, 1999), 0, 1001), Root(dice.randint(-1999, 1999), 0, 1003))
                owners = [part for part in told if part.has(point)]
                if any([part.has(point) for part in lot]):
                    self.assertEqual(owners, [])
                else:
                    self.assertEqual(len(owners), 1)


if __name__ == "__main__":
    unittest.main()
