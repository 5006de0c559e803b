import time
import unittest
from fractions import Fraction

import exact
from samples import HUGE, odd_things, odd_tuples, seeded, some_corner, some_root
from test_corners import bad_corners
from test_floors import FAR, SHIFTS, bad_points, bad_sizes
from test_ribbons import bad_floors
from test_tiles import WAYS

from threetiles.corners import mirrored, place, star, stepped, turned
from threetiles.errors import BadCorner, BadFloor, BadPoint, BadSize, FloorError
from threetiles.floors import Floor, barred
from threetiles.moving import floor_mirrored, floor_moved, floor_turned, moved_by, parting_tile, symmetries
from threetiles.points import added, scaled, square, taken
from threetiles.roots import Root

ZERO = (0, 0, 0, 0)
R = Root(0, 1, 1)
FLOORS = [Floor(shift) for shift in SHIFTS]
LITTLE = Root(1, 0, 10 ** 40)
# Half of the star of the corner (1, 1, 0, 0).
HALF_STAR = (Root(2, -1, 4), Root(0, 1, 4))


def plus(one, other, times=1):
    return tuple([a + times * b for a, b in zip(one, other)])


def some_floor(dice, most=9, bottom=7):
    while True:
        shift = (some_root(dice, most, bottom), some_root(dice, most, bottom))
        if barred(shift) is None:
            return Floor(shift)


def far_away(corner, point):
    """The square of the distance of a corner."""
    return square(taken(place(corner), point))


def all_parting(one, other, point, most):
    """All tiles near a point that just one of two floors has, with their distances, by the words of the document."""
    found = []
    for corner in sorted(set(one.near(point, most)) | set(other.near(point, most))):
        for i, j in WAYS:
            tile = (corner, i, j)
            if one.has_tile(tile) != other.has_tile(tile):
                found.append((far_away(corner, point), tile))
    return found


def nearest_of(parting):
    """The tile with the least distance of (distance, tile), of these the least."""
    best = None
    for far, tile in parting:
        if best is None or far.less(best[0]) or far == best[0] and tile < best[1]:
            best = (far, tile)
    return best and best[1]


def parting_by(one, other, point, most):
    return nearest_of(all_parting(one, other, point, most))


class TestMovedBy(unittest.TestCase):
    def test_itself(self):
        for floor in FLOORS:
            self.assertEqual(moved_by(floor, floor), ZERO)
            self.assertIs(type(moved_by(floor, Floor(floor.shift))), tuple)

    def test_moved(self):
        dice = seeded(221)
        for turn in range(60):
            floor = FLOORS[turn % len(FLOORS)]
            v = some_corner(dice, (3, HUGE)[turn % 2])
            other = floor_moved(floor, v)
            self.assertEqual(moved_by(floor, other), v)
            self.assertEqual(moved_by(other, floor), tuple([-part for part in v]))

    def test_not_moved(self):
        for at, one in enumerate(FLOORS):
            for other in FLOORS[:at] + FLOORS[at + 1:]:
                v = moved_by(one, other)
                if v is not None:
                    self.assertEqual(floor_moved(one, v), other)
        self.assertIsNone(moved_by(FLOORS[0], FLOORS[1]))
        self.assertIsNone(moved_by(FLOORS[1], FLOORS[2]))
        self.assertIsNone(moved_by(Floor((0, 0)), Floor((Root(1, 0, 3), 0))))
        # The stars of corners have halves of r, but not just of one number alone.
        self.assertIsNone(moved_by(Floor((0, 0)), Floor((Root(0, 1, 4), 0))))
        self.assertIsNone(moved_by(Floor((0, 0)), Floor((LITTLE, 0))))
        self.assertEqual(moved_by(Floor((0, 0)), Floor((1, 0))), (1, 0, 0, 0))
        self.assertEqual(moved_by(Floor((0, 0)), Floor((0, R))), (0, 1, 0, 1))
        self.assertEqual(moved_by(Floor((0, 0)), Floor((R, -3))), (0, -1, 3, 1))

    def test_wrong(self):
        for thing in bad_floors():
            for pair in ((thing, FLOORS[0]), (FLOORS[0], thing), (thing, None if thing is not None else 0)):
                with self.assertRaises(BadFloor) as caught:
                    moved_by(*pair)
                self.assertIs(caught.exception.floor, thing)
                self.assertIsInstance(caught.exception, FloorError)


class TestPartingTile(unittest.TestCase):
    def test_equal_floors(self):
        for floor in FLOORS:
            for most in (0, 3, 12):
                self.assertIsNone(parting_tile(floor, Floor(floor.shift), (0, 0), most))

    def test_as_told(self):
        dice = seeded(222)
        seen = {True: 0, False: 0}
        for turn in range(40):
            one = some_floor(dice)
            # From floors that are nearly alike to ones that are not.
            more = (Root(1, 0, (3, 40, 700)[turn % 3]), Root(1, 0, (5, 70, 900)[turn % 3]))
            other = Floor(added(one.shift, more))
            point = ((0, 0), (Root(5, 3, 7), -R), (HUGE, 3))[turn // 3 % 3]
            most = (0, 1, 2, 3, 5)[turn % 5]
            told = parting_tile(one, other, point, most)
            self.assertEqual(told, parting_by(one, other, point, most))
            self.assertEqual(parting_tile(other, one, point, most), told)
            seen[told is None] += 1
        self.assertGreater(min(seen.values()), 5, seen)

    def test_most_0_and_12(self):
        one, other = FLOORS[1], FLOORS[2]
        begin = time.monotonic()
        told = parting_tile(one, other, (0, 0), 12)
        self.assertLess(time.monotonic() - begin, 5)
        self.assertEqual(told, parting_by(one, other, (0, 0), 12))
        point = place(told[0])
        self.assertEqual(parting_tile(one, other, point, 0), parting_by(one, other, point, 0))
        self.assertEqual(parting_tile(one, other, point, 0)[0], told[0])
        self.assertIsNone(parting_tile(one, other, added(point, (LITTLE, 0)), 0))

    def test_just_at_most_away_and_just_beyond(self):
        # Between these shifts lies a single barred line: the floors differ along one line from below to above.
        edge = Root(1, 1, 2)
        one, other = [Floor((number - edge, Root(1, 0, 9))) for number in (LITTLE, -LITTLE)]
        parting = all_parting(one, other, (0, 0), 3)
        self.assertGreater(len(parting), 2)
        right = parting[0][1]
        for far, tile in parting:
            if place(right[0])[0].less(place(tile[0])[0]):
                right = tile
        x, y = place(right[0])
        for most in range(13):
            for size in range(13):
                told = parting_tile(one, other, (x + most, y), size)
                self.assertEqual(told is None, size < most)
            self.assertEqual(parting_tile(one, other, (x + most, y), most)[0], right[0])
            self.assertIsNone(parting_tile(one, other, (x + most + LITTLE, y), most))
            self.assertEqual(parting_tile(one, other, (x + most, y + LITTLE), most), None)

    def test_two_equally_near(self):
        many = 0
        for one, other in [(FLOORS[0], FLOORS[1]), (FLOORS[2], FLOORS[3])]:
            corners = sorted({tile[0] for far, tile in all_parting(one, other, (0, 0), 3)})
            for a, b in zip(corners, corners[1:] + corners[1::3]):
                middle = scaled(Root(1, 0, 2), added(place(a), place(b)))
                parting = all_parting(one, other, middle, 3)
                told = parting_tile(one, other, middle, 3)
                self.assertEqual(told, nearest_of(parting))
                least = far_away(told[0], middle)
                many += len({tile[0] for far, tile in parting if far == least}) > 1
        self.assertGreater(many, 8)

    def test_least_tile_of_a_corner(self):
        seen = set()
        for at, one in enumerate(FLOORS[:5]):
            for other in FLOORS[at + 1:5]:
                corner, i, j = parting_tile(one, other, (1, 1), 5)
                for k, m in WAYS:
                    if (k, m) < (i, j):
                        self.assertEqual(one.has_tile((corner, k, m)), other.has_tile((corner, k, m)))
                self.assertNotEqual(one.has_tile((corner, i, j)), other.has_tile((corner, i, j)))
                seen.add((i, j))
        self.assertGreater(len(seen), 1)

    def test_floors_moved(self):
        dice = seeded(223)
        v = some_corner(dice, HUGE)
        one, other = FLOORS[1], FLOORS[3]
        told = parting_tile(one, other, (0, 0), 5)
        moved = parting_tile(floor_moved(one, v), floor_moved(other, v), place(v), 5)
        self.assertEqual(moved, (plus(told[0], v), told[1], told[2]))

    def test_wrong(self):
        one, other = FLOORS[0], FLOORS[1]
        for thing in bad_floors():
            with self.assertRaises(BadFloor) as caught:
                parting_tile(thing, None if thing is not None else 0, None, None)
            self.assertIs(caught.exception.floor, thing)
            with self.assertRaises(BadFloor) as caught:
                parting_tile(one, thing, None, None)
            self.assertIs(caught.exception.floor, thing)
        for thing in bad_points():
            with self.assertRaises(BadPoint) as caught:
                parting_tile(one, other, thing, None)
            self.assertIs(caught.exception.point, thing)
        for thing in bad_sizes(12):
            for second in (one, other):
                with self.assertRaises(BadSize) as caught:
                    parting_tile(one, second, (0, 0), thing)
                self.assertIs(caught.exception.size, thing)


class TestFloorMoved(unittest.TestCase):
    def test_corners(self):
        dice = seeded(224)
        for turn in range(20):
            floor = FLOORS[turn % len(FLOORS)]
            v = some_corner(dice, (3, HUGE)[turn % 2])
            other = floor_moved(floor, v)
            self.assertIsInstance(other, Floor)
            self.assertTrue(all([type(part) is Root for part in other.shift]))
            here = floor.near((0, 0), 3)
            there = other.near(place(v), 3)
            self.assertEqual(sorted([plus(corner, v) for corner in here]), there)
            self.assertEqual(floor_moved(other, tuple([-part for part in v])), floor)
            self.assertEqual(floor_moved(floor, ZERO), floor)

    def test_wrong(self):
        for thing in bad_floors():
            with self.assertRaises(BadFloor) as caught:
                floor_moved(thing, None)
            self.assertIs(caught.exception.floor, thing)
        for thing in bad_corners():
            with self.assertRaises(BadCorner) as caught:
                floor_moved(FLOORS[0], thing)
            self.assertIs(caught.exception.corner, thing)


class TestFloorTurned(unittest.TestCase):
    def test_corners(self):
        for floor in FLOORS[:5]:
            for eighths in list(range(-9, 18)) + [HUGE, -HUGE, 8 * HUGE]:
                other = floor_turned(floor, eighths)
                self.assertIsInstance(other, Floor)
                self.assertTrue(all([type(part) is Root for part in other.shift]))
                self.assertEqual(sorted([turned(corner, eighths) for corner in floor.near((0, 0), 3)]),
                                 other.near((0, 0), 3))
        for eighths in (0, 1, 5):
            other = floor_turned(FLOORS[5], eighths)
            for corner in FLOORS[5].near((HUGE, R), 2):
                self.assertTrue(exact.has_corner(other.shift, turned(corner, eighths)))

    def test_a_whole_round(self):
        for floor in FLOORS:
            self.assertEqual(floor_turned(floor, 0), floor)
            self.assertEqual(floor_turned(floor, 8), floor)
            self.assertEqual(floor_turned(floor, 10 ** 59 * 8), floor)
            self.assertEqual(floor_turned(floor, -1), floor_turned(floor, 7))
            self.assertEqual(floor_turned(floor_turned(floor, -1), 1), floor)
            self.assertEqual(floor_turned(floor, HUGE), floor_turned(floor, HUGE % 8))
            self.assertEqual(floor_turned(floor_turned(floor, 3), 4), floor_turned(floor, 7))

    def test_wrong(self):
        for thing in bad_floors():
            with self.assertRaises(BadFloor) as caught:
                floor_turned(thing, None)
            self.assertIs(caught.exception.floor, thing)
        for thing in odd_things() + odd_tuples() + [Root(1, 0, 1), R, "8", (8,), [8]]:
            with self.assertRaises(BadSize) as caught:
                floor_turned(FLOORS[0], thing)
            self.assertIs(caught.exception.size, thing)


class TestFloorMirrored(unittest.TestCase):
    def test_corners(self):
        for floor in FLOORS:
            other = floor_mirrored(floor)
            self.assertIsInstance(other, Floor)
            self.assertTrue(all([type(part) is Root for part in other.shift]))
            self.assertEqual(sorted([mirrored(corner) for corner in floor.near((0, 0), 4)]), other.near((0, 0), 4))
            self.assertEqual(floor_mirrored(other), floor)

    def test_wrong(self):
        for thing in bad_floors():
            with self.assertRaises(BadFloor) as caught:
                floor_mirrored(thing)
            self.assertIs(caught.exception.floor, thing)


class TestSymmetries(unittest.TestCase):
    def check(self, floor):
        told = symmetries(floor)
        self.assertIs(type(told), list)
        self.assertEqual(told, sorted(told))
        self.assertEqual(told[0], (0, 0, ZERO))
        for mirror, eighths, v in told:
            other = floor_mirrored(floor) if mirror else floor
            self.assertEqual(floor_moved(floor_turned(other, eighths), v), floor)
            # And so are the corners.
            for corner in floor.near((0, 0), 2):
                image = mirrored(corner) if mirror else corner
                self.assertTrue(exact.has_corner(floor.shift, plus(turned(image, eighths), v)))
        return [(mirror, eighths) for mirror, eighths, v in told]

    def test_all(self):
        everything = [(mirror, eighths) for mirror in (0, 1) for eighths in range(8)]
        self.assertEqual(self.check(Floor((0, 0))), everything)
        self.assertEqual(symmetries(Floor((0, 0))), [(mirror, eighths, ZERO) for mirror, eighths in everything])
        # About another corner.
        self.assertEqual(self.check(Floor(star((3, 1, -4, 1)))), everything)
        self.assertEqual(self.check(Floor(star(FAR))), everything)

    def test_few(self):
        self.assertEqual(self.check(Floor((Root(1, 0, 3), 0))), [(0, 0), (1, 0)])
        self.assertEqual(self.check(Floor((0, Root(1, 0, 3)))), [(0, 0), (1, 4)])
        self.assertEqual(self.check(Floor((Root(1, 0, 3), Root(1, 0, 3)))), [(0, 0), (1, 6)])
        self.assertEqual(self.check(floor_moved(Floor((Root(1, 0, 3), 0)), (5, 6, 7, -8))), [(0, 0), (1, 0)])
        # Half of a star: half a round leads it to itself, by a way of its own.
        half = Floor(HALF_STAR)
        told = self.check(half)
        self.assertIn((0, 4), told)
        self.assertIn((0, 4, (1, 1, 0, 0)), symmetries(half))

    def test_one_alone(self):
        for floor in (FLOORS[1], Floor((Root(1, 0, 3), Root(1, 0, 5)))):
            self.assertEqual(self.check(floor), [(0, 0)])
            self.assertEqual(symmetries(floor), [(0, 0, ZERO)])

    def test_each_one(self):
        dice = seeded(225)
        quarter = [Root(a, b, 4) for a in range(-3, 4) for b in range(-3, 4)]
        counts = {}
        for _ in range(150):
            shift = (dice.choice(quarter), dice.choice(quarter))
            if barred(shift) is not None:
                continue
            floor = Floor(shift)
            told = symmetries(floor)
            expected = []
            for mirror in (0, 1):
                for eighths in range(8):
                    other = floor_turned(floor_mirrored(floor) if mirror else floor, eighths)
                    v = corner_of([exact.plus(exact.pair(a), exact.pair(b), -1) for a, b in zip(floor.shift, other.shift)])
                    if v is not None:
                        expected.append((mirror, eighths, v))
            self.assertEqual(told, expected)
            counts[len(told)] = counts.get(len(told), 0) + 1
        self.assertLessEqual({1, 2, 4}, set(counts))

    def test_moved_ones(self):
        # The symmetries of a floor that is moved are moved with it.
        v = (3, -1, 4, 2)
        for floor in (FLOORS[0], FLOORS[3], Floor(HALF_STAR)):
            told = []
            for mirror, eighths, w in symmetries(floor):
                image = turned(mirrored(v) if mirror else v, eighths)
                told.append((mirror, eighths, plus(plus(w, v), image, -1)))
            self.assertEqual(symmetries(floor_moved(floor, v)), told)

    def test_wrong(self):
        for thing in bad_floors():
            with self.assertRaises(BadFloor) as caught:
                symmetries(thing)
            self.assertIs(caught.exception.floor, thing)

    def test_a_new_list_in_time(self):
        begin = time.monotonic()
        for floor in FLOORS:
            told = symmetries(floor)
            other = symmetries(floor)
            self.assertEqual(told, other)
            self.assertIsNot(told, other)
            told.clear()
            self.assertEqual(symmetries(floor), other)
        self.assertLess(time.monotonic() - begin, 5)


def corner_of(point):
    """The corner with a star of pairs of fractions, or None."""
    (a, b), (c, d) = point
    # x is x0 - h * (x1 - x3), y is -x2 + h * (x1 + x3), and h is r / 2.
    x1, x3 = -b + d, b + d
    if all([exact.whole(part) for part in (a, c, x1, x3)]):
        return (int(a), int(x1), int(-c), int(x3))
    return None


class TestOfThisFile(unittest.TestCase):
    def test_corner_of(self):
        for corner in [ZERO, (3, 1, -4, 1), (1, 2, 3, 4), stepped(FAR, 5, 3)]:
            self.assertEqual(corner_of(exact.star_of(corner)), corner)
        self.assertIsNone(corner_of(((Fraction(0), Fraction(1, 2)), (Fraction(0), Fraction(0)))))


if __name__ == "__main__":
    unittest.main()
