import time
import unittest

import exact
import surds
from samples import HUGE, odd_things, odd_tuples, seeded, some_root
from test_corners import bad_corners
from test_floors import FAR, SHIFTS
from test_lots import EMPTY, HALF_PLANE, box, some_piece
from test_ribbons import bad_floors

from threetiles.corners import greater, stepped
from threetiles.errors import (
    BadCorner, BadDirection, BadFloor, BadPiece, BadSize, FloorError, NoCorner, NoSide)
from threetiles.floors import Floor, barred
from threetiles.greater import greater_floor, led_up, lesser_floor, lowered, seam, stands
from threetiles.lots import window
from threetiles.pieces import Piece
from threetiles.points import scaled
from threetiles.roots import Root
from threetiles.tiles import tile_corners

ZERO = (0, 0, 0, 0)
R = Root(0, 1, 1)
UP = Root(-1, -1, 1)


def some_shift(dice, most=20, bottom=7):
    while True:
        shift = (some_root(dice, most, bottom), some_root(dice, most, bottom))
        if barred(shift) is None:
            return shift


def all_shifts():
    dice = seeded(211)
    return SHIFTS + [some_shift(dice) for _ in range(20)]


def bad_many():
    return odd_things() + odd_tuples() + [-41, 41, HUGE, -HUGE, Root(1, 0, 1), R, (1,), [1], "1"]


def bad_directions():
    return odd_things() + odd_tuples() + [-1, 8, HUGE, Root(1, 0, 1), "0", (0,), [0]]


class TestGreaterFloor(unittest.TestCase):
    def test_example(self):
        floor = Floor((0, 0))
        self.assertEqual((greater_floor(floor) == floor, seam(floor, (0, 0, 0, 0), 0)),
                         (True, ("side", ((1, 0, 0, -1), 1, 3))))

    def test_shifts(self):
        for shift in all_shifts():
            floor = Floor(shift)
            above = greater_floor(floor)
            self.assertIsInstance(above, Floor)
            self.assertEqual(above, Floor(scaled(UP, shift)))
            self.assertEqual([surds.surd(part) for part in above.shift],
                             [surds.surd(part) * surds.Surd(-1, -1) for part in shift])
            self.assertTrue(all([type(part) is Root for part in above.shift]))
            below = lesser_floor(floor)
            self.assertEqual([surds.surd(part) * surds.Surd(-1, -1) for part in below.shift],
                             [surds.surd(part) for part in shift])
            self.assertEqual(greater_floor(below), floor)
            self.assertEqual(lesser_floor(above), floor)

    def test_its_corners_stand_in_the_floor(self):
        for shift in all_shifts()[:12]:
            floor = Floor(shift)
            for corner in greater_floor(floor).near((1, 0), 4):
                self.assertTrue(exact.has_corner(shift, greater(corner)))

    def test_near_barred_lines(self):
        little = Root(1, 0, 10 ** 50)
        for shift in [(Root(1, 0, 2) + little, 0), (0, Root(1, 0, 2) - little), (Root(0, 1, 2) + little, 0)]:
            floor = Floor(shift)
            for many in (-40, -3, 1, 40):
                self.assertEqual(led_up(led_up(floor, many), -many), floor)

    def test_wrong(self):
        for judge in (greater_floor, lesser_floor):
            for thing in bad_floors():
                with self.assertRaises(BadFloor) as caught:
                    judge(thing)
                self.assertIs(caught.exception.floor, thing)
                self.assertIsInstance(caught.exception, FloorError)

    def test_nothing_changes(self):
        floor = Floor(SHIFTS[2])
        self.assertEqual(greater_floor(floor), greater_floor(floor))
        self.assertEqual(lesser_floor(floor), lesser_floor(floor))
        self.assertEqual(floor.shift, Floor(SHIFTS[2]).shift)


class TestLedUp(unittest.TestCase):
    def test_some(self):
        for shift in all_shifts():
            floor = Floor(shift)
            self.assertEqual(led_up(floor, 0), floor)
            self.assertEqual(led_up(floor, 1), greater_floor(floor))
            self.assertEqual(led_up(floor, -1), lesser_floor(floor))
            above, below = floor, floor
            for many in range(1, 41):
                above, below = greater_floor(above), lesser_floor(below)
                if many in (2, 3, 7, 39, 40):
                    self.assertEqual(led_up(floor, many), above)
                    self.assertEqual(led_up(floor, -many), below)
                    self.assertEqual(led_up(above, -many), floor)
                    self.assertEqual(led_up(below, many), floor)

    def test_there_and_back(self):
        floor = Floor(SHIFTS[5])
        begin = time.monotonic()
        far = floor
        for _ in range(10):
            far = led_up(far, 40)
        for _ in range(10):
            far = led_up(far, -40)
        self.assertEqual(far, floor)
        self.assertLess(time.monotonic() - begin, 5)

    def test_wrong(self):
        for thing in bad_floors():
            for many in (0, 41, None):
                with self.assertRaises(BadFloor) as caught:
                    led_up(thing, many)
                self.assertIs(caught.exception.floor, thing)
        for thing in bad_many():
            with self.assertRaises(BadSize) as caught:
                led_up(Floor((0, 0)), thing)
            self.assertIs(caught.exception.size, thing)


class TestLowered(unittest.TestCase):
    def test_areas(self):
        dice = seeded(212)
        for piece in [window()] + [some_piece(dice) for _ in range(12)]:
            for many in (0, 1, -1, 2, -5, 17, 40, -40):
                told = lowered(piece, many)
                self.assertIsInstance(told, Piece)
                # Led up once, lengths are 1 + r times as great, and areas 3 + 2 * r times.
                area = piece.area()
                for _ in range(abs(many)):
                    area = area * (Root(3, -2, 1) if many > 0 else Root(3, 2, 1))
                self.assertEqual(told.area(), area)
                self.assertEqual(lowered(told, -many), piece)
            self.assertEqual(lowered(piece, 0), piece)

    def test_points(self):
        dice = seeded(213)
        seen = {True: 0, False: 0}
        pieces = [window(), box(0, 0, 3, 5), HALF_PLANE, Piece([(1, 2), (4, R)]), Piece([(0, 1), (3, 1)]), Piece([])]
        for turn in range(300):
            piece = pieces[turn % len(pieces)]
            many = (1, -1, 2, 3, -2, 0)[turn // 6 % 6]
            shift = some_shift(dice, 3, 5)
            right = piece.has(led_up(Floor(shift), many).shift)
            self.assertIs(lowered(piece, many).has(shift), right)
            seen[right] += 1
        self.assertGreater(min(seen.values()), 50)
        for piece in pieces:
            for many in (1, 4, -3, 40, -40):
                point = lowered(piece, many).let_point()
                self.assertTrue(piece.has(led_up(Floor(point), many).shift))

    def test_without_points(self):
        for many in (0, 1, -1, 40, -40):
            self.assertTrue(lowered(EMPTY, many).is_empty())
            self.assertEqual(lowered(Piece([]), many), Piece([]))

    def test_once_turns_it_over(self):
        self.assertEqual(lowered(Piece([(0, 1)]), 1), Piece([(4, Root(-1, 1, 1))]))
        self.assertEqual(lowered(Piece([(0, 1)]), -1), Piece([(4, Root(1, 1, 1))]))
        self.assertEqual(lowered(Piece([(0, 1)]), 2), Piece([(0, Root(3, -2, 1))]))

    def test_wrong(self):
        for thing in odd_things() + odd_tuples() + [0, Floor((0, 0)), [window()], window().bounds, [(0, 1)], Piece]:
            for many in (0, 41, None):
                with self.assertRaises(BadPiece) as caught:
                    lowered(thing, many)
                self.assertIs(caught.exception.piece, thing)
                self.assertIsInstance(caught.exception, FloorError)
        for thing in bad_many():
            for piece in (window(), EMPTY, Piece([])):
                with self.assertRaises(BadSize) as caught:
                    lowered(piece, thing)
                self.assertIs(caught.exception.size, thing)

    def test_nothing_changes(self):
        piece = window()
        self.assertEqual(lowered(piece, 3), lowered(piece, 3))
        self.assertEqual(piece, window())


class TestStands(unittest.TestCase):
    def test_as_told(self):
        seen = {True: 0, False: 0}
        for shift in all_shifts()[:12]:
            floor = Floor(shift)
            above = greater_floor(floor)
            standing = {greater(corner): corner for corner in above.near((0, 0), 3)}
            for corner in floor.near((0, 0), 6):
                told = stands(floor, corner)
                self.assertEqual(told, standing.get(corner))
                if told is not None:
                    self.assertIs(type(told), tuple)
                    self.assertTrue(exact.has_corner(above.shift, told))
                    self.assertEqual(greater(told), corner)
                seen[told is not None] += 1
        self.assertGreater(min(seen.values()), 100)

    def test_each_corner_of_the_greater_floor(self):
        for shift in all_shifts()[:12]:
            floor = Floor(shift)
            for corner in greater_floor(floor).near((2, 1), 3):
                self.assertEqual(stands(floor, greater(corner)), corner)

    def test_numbers_of_many_digits(self):
        floor = Floor(SHIFTS[5])
        seen = set()
        for corner in floor.near((HUGE, Root(HUGE, HUGE, 3)), 3):
            told = stands(floor, corner)
            seen.add(told is None)
            if told is not None:
                self.assertEqual(greater(told), corner)
        self.assertEqual(seen, {True, False})

    def test_wrong(self):
        floor = Floor((0, 0))
        for thing in bad_floors():
            with self.assertRaises(BadFloor) as caught:
                stands(thing, None)
            self.assertIs(caught.exception.floor, thing)
        for thing in bad_corners():
            with self.assertRaises(BadCorner) as caught:
                stands(floor, thing)
            self.assertIs(caught.exception.corner, thing)
        for corner in ((2, 0, 0, 0), FAR, (5, 5, 5, 5)):
            with self.assertRaises(NoCorner) as caught:
                stands(floor, corner)
            self.assertIs(caught.exception.corner, corner)


class TestSeam(unittest.TestCase):
    def assert_right(self, floor, corner, d):
        told = seam(floor, corner, d)
        self.assertIs(type(told), tuple)
        word, tile = told
        start, end = greater(corner), greater(stepped(corner, d, 1))
        shift = floor.shift
        self.assertTrue(all([exact.has_corner(shift, part) for part in (start, end) + tile_corners(tile)]))
        # A square has sides a quarter of a round apart.
        self.assertEqual(tile[2] - tile[1], 2)
        # From the one end by a side, then along the diagonal of the square to the other one, or the other way.
        if word == "side":
            middle, others = stepped(start, d, 1), (stepped(start, d, 1), end)
        else:
            self.assertEqual(word, "square")
            middle, others = stepped(end, (d + 4) % 8, 1), (start, stepped(end, (d + 4) % 8, 1))
        self.assertTrue(exact.has_corner(shift, middle))
        self.assertIn(others[0], tile_corners(tile))
        self.assertIn(others[1], tile_corners(tile))
        self.assertNotIn(others[1], [stepped(others[0], way, 1) for way in range(8)])
        return word

    def test_all_sides(self):
        seen = {}
        for shift in all_shifts()[:14]:
            floor = Floor(shift)
            above = greater_floor(floor)
            for corner in above.near((0, 1), 3):
                for d in above.sides(corner):
                    word = self.assert_right(floor, corner, d)
                    seen[word, d] = seen.get((word, d), 0) + 1
                    # From the other end it is the other way about, and the same square.
                    back = seam(floor, stepped(corner, d, 1), (d + 4) % 8)
                    self.assertEqual(back, ({"side": "square", "square": "side"}[word], seam(floor, corner, d)[1]))
        self.assertEqual(sorted(seen), sorted([(word, d) for word in ("side", "square") for d in range(8)]))

    def test_numbers_of_many_digits(self):
        floor = Floor(SHIFTS[5])
        above = greater_floor(floor)
        words = set()
        for corner in above.near((HUGE, Root(HUGE, HUGE, 3)), 2):
            for d in above.sides(corner):
                words.add(self.assert_right(floor, corner, d))
        self.assertEqual(words, {"side", "square"})

    def test_wrong(self):
        floor = Floor(SHIFTS[1])
        above = greater_floor(floor)
        corner = above.near((0, 0), 2)[0]
        for thing in bad_floors():
            with self.assertRaises(BadFloor) as caught:
                seam(thing, None, None)
            self.assertIs(caught.exception.floor, thing)
        for thing in bad_corners():
            with self.assertRaises(BadCorner) as caught:
                seam(floor, thing, None)
            self.assertIs(caught.exception.corner, thing)
        far = (5, 5, 5, 5)
        for thing in bad_directions():
            for other in (corner, far):
                with self.assertRaises(BadDirection) as caught:
                    seam(floor, other, thing)
                self.assertIs(caught.exception.direction, thing)
        for direction in (0, 7):
            with self.assertRaises(NoCorner) as caught:
                seam(floor, far, direction)
            self.assertIs(caught.exception.corner, far)
        # The floor has this one, the greater floor has not.
        for other in floor.near((0, 0), 3):
            if not above.has_corner(other):
                with self.assertRaises(NoCorner) as caught:
                    seam(floor, other, 0)
                self.assertIs(caught.exception.corner, other)

    def test_no_side(self):
        many = 0
        for shift in SHIFTS[1:]:
            floor = Floor(shift)
            above = greater_floor(floor)
            for corner in above.near((0, 0), 2):
                for d in range(8):
                    if d not in above.sides(corner):
                        with self.assertRaises(NoSide) as caught:
                            seam(floor, corner, d)
                        self.assertEqual(caught.exception.direction, d)
                        many += 1
        self.assertGreater(many, 50)


if __name__ == "__main__":
    unittest.main()
