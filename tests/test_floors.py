import unittest
from itertools import product

import exact
from test_corners import bad_corners
from test_tiles import WAYS, bad_tiles
from samples import HUGE, odd_things, odd_tuples, seeded, some_root

from threetiles.corners import place, star, stepped
from threetiles.errors import (
    BadCorner, BadPoint, BadSide, BadSize, BadTile, Barred, FloorError, NoCorner, NoTile)
from threetiles.floors import Floor, barred
from threetiles.points import added, scaled, square, taken
from threetiles.roots import Root
from threetiles.tiles import tile_corners

R = Root(0, 1, 1)
H = Root(0, 1, 2)
HALF = Root(1, 0, 2)
ZERO = (0, 0, 0, 0)
TINY = Root(1, 0, 1)
for _ in range(60):
    TINY = TINY * Root(-1, 1, 1)
# Far away from all that is small, by a corner of which the star is near to (0, 0).
FAR = (3 * 10 ** 50, -7 * 10 ** 51, 10 ** 52, 5 * 10 ** 49)
SHIFTS = [
    (0, 0), (Root(1, 0, 3), Root(-2, 0, 7)), (Root(1, 2, 5), Root(0, 1, 3)), (Root(-3, 1, 7), 0), (R, 1),
    (Root(10 ** 40, 3, 9 * 10 ** 39), Root(1, 10 ** 30, 3 * 10 ** 30 + 1)),
]


def bad_points():
    return odd_things() + odd_tuples() + [0, R, ZERO, (R,), (R, R, R), [R, R]]


def bad_sizes(most):
    return odd_things() + odd_tuples() + [-1, most + 1, HUGE, -HUGE, Root(1, 0, 1), (1,)]


def moved(corner, by):
    return tuple([a + b for a, b in zip(corner, by)])


def own_corner(floor):
    return floor.near((0, 0), 2)[0]


class TestBarred(unittest.TestCase):
    def test_examples(self):
        self.assertEqual(barred((HALF, 0)), 2)
        self.assertEqual(barred((0, HALF)), 0)
        self.assertEqual(barred((HALF, HALF)), 0)
        self.assertEqual(barred((HALF + H, Root(1, 0, 3))), 2)
        self.assertEqual(barred((Root(1, 0, 3), Root(2, 0, 3) + H)), 1)
        self.assertEqual(barred((Root(1, 0, 3), Root(4, 0, 3) + 3 * H)), 3)
        self.assertEqual(barred((H, 0)), 1)
        self.assertEqual(barred((H + HALF, HALF)), 0)
        self.assertEqual(barred((H + HALF, HALF + HUGE * H)), 0)
        self.assertEqual(barred((Root(1, 0, 2), H - HALF)), 0)
        self.assertEqual(barred((Root(2 * HUGE + 1, HUGE, 2), 0)), 2)

    def test_none(self):
        for shift in SHIFTS + [(0, 0), (3, -5), (R, 0), (HALF + Root(0, 1, 4), 0), (Root(1, 0, 4), HALF * HALF)]:
            self.assertIsNone(barred(shift))

    def test_as_told(self):
        numbers = [Root(a, b, c) for c in (1, 2, 3, 4) for a in range(-3, 4) for b in (-2, -1, 0, 1, 3)]
        seen = set()
        for x, y in product(numbers[::3], numbers):
            told = barred((x, y))
            self.assertEqual(told, exact.barred((x, y)))
            seen.add(told)
        self.assertEqual(seen, {None, 0, 1, 2, 3})

    def test_wrong(self):
        for thing in bad_points():
            for judge in (barred, Floor):
                with self.assertRaises(BadPoint) as caught:
                    judge(thing)
                self.assertIs(caught.exception.point, thing)


class TestFloor(unittest.TestCase):
    def test_barred_shifts_have_no_floor(self):
        for shift, direction in [((0, HALF), 0), ((H, 0), 1), ((HALF, 0), 2), ((Root(1, 0, 3), Root(1, 0, 3) + H), 3)]:
            with self.assertRaises(Barred) as caught:
                Floor(shift)
            self.assertEqual(caught.exception.direction, direction)
            self.assertIsInstance(caught.exception, FloorError)

    def test_shift(self):
        floor = Floor((3, R))
        self.assertEqual(floor.shift, (3, R))
        self.assertIs(type(floor.shift), tuple)
        self.assertEqual([type(part) for part in floor.shift], [Root, Root])

    def test_equal(self):
        self.assertTrue(Floor((3, R)) == Floor((Root(6, 0, 2), R)))
        self.assertFalse(Floor((3, R)) != Floor((3, R)))
        self.assertTrue(Floor((3, R)) != Floor((R, 3)))
        self.assertFalse(Floor((0, 0)) == Floor((0, TINY.over(3))))
        for thing in odd_things() + odd_tuples() + [(0, 0), (Root(0, 0, 1), 0), 0]:
            self.assertIs(Floor((0, 0)) == thing, False)
            self.assertIs(Floor((0, 0)) != thing, True)

    def test_has_corner_as_told(self):
        for shift in SHIFTS:
            floor = Floor(shift)
            many = 0
            for corner in product(range(-2, 3), repeat=4):
                told = floor.has_corner(corner)
                self.assertIs(told, exact.has_corner(shift, corner))
                many += told
            if shift == (0, 0):
                self.assertGreater(many, 8)

    def test_far_corners(self):
        for shift in SHIFTS:
            near, far = Floor(shift), Floor(added(shift, star(FAR)))
            for corner in product((-1, 0, 1), repeat=4):
                self.assertIs(near.has_corner(corner), far.has_corner(moved(corner, FAR)))

    def test_beside_the_rim(self):
        edge, far = HALF + H, 1 + H
        third, more = Root(1, 0, 3), Root(3, 0, 5)
        spots = [((edge, third), (1, 0)), ((-edge, third), (-1, 0)), ((third, edge), (0, 1)),
                 ((third, -edge), (0, -1)), ((far - more, more), (1, 0)), ((more - far, -more), (-1, 0)),
                 ((far - more, -more), (1, 0)), ((more - far, more), (-1, 0))]
        for spot, way in spots:
            for tiny in (Root(1, 0, 100), TINY.over(3), TINY.over(3 * 10 ** 20)):
                for outward in (False, True):
                    star_less_shift = added(spot, scaled(tiny if outward else -tiny, way))
                    shift = scaled(-1, star_less_shift)
                    self.assertIs(Floor(shift).has_corner(ZERO), not outward)
                    elsewhere = taken(star(FAR), star_less_shift)
                    self.assertIs(Floor(elsewhere).has_corner(FAR), not outward)

    def test_wrong_corners(self):
        floor = Floor((0, 0))
        for thing in bad_corners():
            for deed in (floor.has_corner, floor.sides, floor.tiles_at, lambda corner: floor.around(corner, None)):
                with self.assertRaises(BadCorner) as caught:
                    deed(thing)
                self.assertIs(caught.exception.corner, thing)

    def test_missing_corners(self):
        floor = Floor((0, 0))
        missing = (9, 0, 0, 0)
        self.assertIs(floor.has_corner(missing), False)
        for deed in (floor.sides, floor.tiles_at, lambda corner: floor.around(corner, None)):
            with self.assertRaises(NoCorner) as caught:
                deed(missing)
            self.assertIs(caught.exception.corner, missing)


class TestSides(unittest.TestCase):
    def test_example(self):
        floor = Floor((0, 0))
        self.assertEqual(
            (floor.sides(ZERO), floor.tiles_at(ZERO)[0], floor.has_tile((ZERO, 0, 2)), barred((Root(1, 0, 2), 0))),
            ((0, 1, 2, 3, 4, 5, 6, 7), (ZERO, 0, 1), False, 2))

    def test_as_told(self):
        for shift in SHIFTS:
            floor = Floor(shift)
            for corner in floor.near((0, 0), 4):
                told = floor.sides(corner)
                self.assertIs(type(told), tuple)
                self.assertEqual(told, exact.sides(shift, corner))

    def test_three_to_eight_sides(self):
        seen = set()
        for shift in SHIFTS[:4]:
            floor = Floor(shift)
            seen.update([len(floor.sides(corner)) for corner in floor.near((0, 0), 12)])
        self.assertEqual(seen, {3, 4, 5, 6, 7, 8})

    def test_sides_lead_back(self):
        for shift in SHIFTS:
            floor = Floor(shift)
            for corner in floor.near((0, 0), 3):
                for direction in floor.sides(corner):
                    self.assertIn((direction + 4) % 8, floor.sides(stepped(corner, direction, 1)))


def eighths_over(tile, corner):
    """The eighths of the round about one of its corners over which a tile lies."""
    around = [stepped(corner, direction, 1) for direction in range(8)]
    ways = [direction for direction in range(8) if around[direction] in tile_corners(tile)]
    one, other = ways
    gap = (other - one) % 8
    return [(one + k) % 8 for k in range(gap)] if gap < 4 else [(other + k) % 8 for k in range(8 - gap)]


class TestTilesAt(unittest.TestCase):
    def test_eight_about_the_middle(self):
        told = Floor((0, 0)).tiles_at(ZERO)
        self.assertEqual(told, (
            (ZERO, 0, 1), (ZERO, 1, 2), (ZERO, 2, 3), ((-1, 0, 0, 0), 0, 3), ((-1, -1, 0, 0), 0, 1),
            ((0, -1, -1, 0), 1, 2), ((0, 0, -1, -1), 2, 3), ((0, 0, 0, -1), 0, 3)))

    def test_they_lie_once_round(self):
        for shift in SHIFTS:
            floor = Floor(shift)
            for corner in floor.near((0, 0), 5):
                told, sides = floor.tiles_at(corner), floor.sides(corner)
                self.assertIs(type(told), tuple)
                self.assertEqual(len(told), len(sides))
                over = []
                for at, tile in enumerate(told):
                    self.assertTrue(floor.has_tile(tile))
                    one, other = sides[at], sides[(at + 1) % len(sides)]
                    for direction in (one, other):
                        self.assertIn(stepped(corner, direction, 1), tile_corners(tile))
                    self.assertEqual(eighths_over(tile, corner)[0], one)
                    over += eighths_over(tile, corner)
                self.assertEqual(sorted(over), list(range(8)))

    def test_they_are_all_that_has_the_corner(self):
        for shift in SHIFTS:
            floor = Floor(shift)
            for corner in floor.near((0, 0), 2):
                with_corner = set()
                for i, j in WAYS:
                    for a, b in product((0, -1), repeat=2):
                        tile = (stepped(stepped(corner, i, a), j, b), i, j)
                        if floor.has_tile(tile):
                            with_corner.add(tile)
                self.assertEqual(set(floor.tiles_at(corner)), with_corner)


class TestHasTile(unittest.TestCase):
    def test_all_four_corners(self):
        for shift in SHIFTS:
            floor = Floor(shift)
            told = set()
            for corner in floor.near((0, 0), 3):
                for i, j in WAYS:
                    tile = (corner, i, j)
                    found = floor.has_tile(tile)
                    self.assertIs(found, all([exact.has_corner(shift, one) for one in tile_corners(tile)]))
                    told.add(found)
            self.assertEqual(told, {True, False})

    def test_one_corner_missing_is_enough(self):
        floor = Floor((0, 0))
        missing = {}
        for corner in product(range(-2, 3), repeat=4):
            for i, j in WAYS:
                four = [corner, stepped(corner, i, 1), stepped(corner, j, 1), stepped(stepped(corner, i, 1), j, 1)]
                has = tuple([floor.has_corner(one) for one in four])
                if has.count(False) == 1:
                    missing[has.index(False)] = True
                    self.assertIs(floor.has_tile((corner, i, j)), False)
        self.assertEqual(sorted(missing), [0, 1, 2, 3])

    def test_wrong(self):
        floor = Floor((0, 0))
        for thing in bad_tiles():
            for deed in (floor.has_tile, lambda tile: floor.across(tile, 0), lambda tile: floor.across(tile, None)):
                with self.assertRaises(BadTile) as caught:
                    deed(thing)
                self.assertIs(caught.exception.tile, thing)


def ends(tile, side):
    corner, i, j = tile
    one, other = stepped(corner, i, 1), stepped(corner, j, 1)
    last = stepped(one, j, 1)
    return [(corner, one), (one, last), (other, last), (corner, other)][side]


class TestAcross(unittest.TestCase):
    def test_example(self):
        floor = Floor((0, 0))
        self.assertEqual(floor.across((ZERO, 0, 1), 0), ((0, 0, 0, -1), 0, 3))
        self.assertEqual(floor.across((ZERO, 0, 1), 3), (ZERO, 1, 2))

    def test_across_and_back(self):
        seen = set()
        for shift in SHIFTS + [added(SHIFTS[2], star(FAR))]:
            floor = Floor(shift)
            middle = place(FAR) if shift not in SHIFTS else (0, 0)
            tiles = {tile for corner in floor.near(middle, 3) for tile in floor.tiles_at(corner)}
            for tile in tiles:
                for side in range(4):
                    other = floor.across(tile, side)
                    shared = set(tile_corners(tile)) & set(tile_corners(other))
                    self.assertNotEqual(other, tile)
                    self.assertTrue(floor.has_tile(other))
                    self.assertEqual(shared, set(ends(tile, side)))
                    back = [k for k in range(4) if set(ends(other, k)) == shared]
                    self.assertEqual(len(back), 1)
                    self.assertEqual(floor.across(other, back[0]), tile)
                    seen.add((side, back[0]))
        self.assertGreaterEqual(len(seen), 8)

    def test_wrong(self):
        floor = Floor((0, 0))
        missing = (ZERO, 0, 2)
        for side in (0, 4, None):
            with self.assertRaises(NoTile) as caught:
                floor.across(missing, side)
            self.assertIs(caught.exception.tile, missing)
        for thing in odd_things() + odd_tuples() + [-1, 4, HUGE, Root(1, 0, 1)]:
            with self.assertRaises(BadSide) as caught:
                floor.across((ZERO, 0, 1), thing)
            self.assertIs(caught.exception.side, thing)


class TestNear(unittest.TestCase):
    def test_as_told(self):
        dice = seeded(51)
        for shift in SHIFTS[:5]:
            floor = Floor(shift)
            box = [corner for corner in product(range(-4, 5), repeat=4) if floor.has_corner(corner)]
            for size in (0, 1, 2, 3):
                point = (some_root(dice, 3, 3), some_root(dice, 1, 4))
                if square(point).less(4):
                    told = floor.near(point, size)
                    self.assertEqual(told, [corner for corner in box if exact.at_most(corner, point, size)])
            self.assertEqual(
                floor.near((0, 1), 3), [corner for corner in box if exact.at_most(corner, (0, 1), 3)])

    def test_greater_sizes(self):
        # All corners at a distance of at most 6 are reached by 8 steps, and they are corners of the floor.
        floor = Floor(SHIFTS[1])
        middle = own_corner(floor)
        reached = [corner for ring in floor.around(middle, 8) for corner in ring]
        for size in (4, 5):
            told = floor.near(place(middle), size)
            self.assertEqual(told, sorted([one for one in reached if exact.at_most(one, place(middle), size)]))
        for size in (6, 11, 12):
            told = floor.near((R, -3), size)
            self.assertEqual(told, sorted(set(told)))
            self.assertTrue(all([exact.at_most(corner, (R, -3), size) for corner in told]))
            # About 1.2 corners lie on each square of the side one.
            self.assertTrue(3.0 * size * size < len(told) < 4.6 * size * size)
        larger = floor.near((R, -3), 12)
        self.assertEqual(floor.near((R, -3), 7), [one for one in larger if exact.at_most(one, (R, -3), 7)])

    def test_size_zero(self):
        floor = Floor((0, 0))
        for corner in floor.near((0, 0), 3):
            self.assertEqual(floor.near(place(corner), 0), [corner])
        self.assertEqual(floor.near((TINY, 0), 0), [])
        self.assertEqual(floor.near((9, 9), 0), [])
        self.assertEqual(floor.near(place((9, 0, 0, 0)), 0), [])

    def test_just_at_the_size(self):
        floor = Floor((0, 0))
        for size, way in product((1, 4, 12), (0, 3, 6)):
            unit = place(stepped(ZERO, way, 1))
            for corner in floor.near((0, 0), 4)[::12]:
                point = taken(place(corner), scaled(size, unit))
                self.assertIn(corner, floor.near(point, size))
                self.assertNotIn(corner, floor.near(taken(point, scaled(TINY, unit)), size))
                self.assertIn(corner, floor.near(added(point, scaled(TINY, unit)), size))

    def test_far_away(self):
        for shift in SHIFTS:
            near, far = Floor(shift), Floor(added(shift, star(FAR)))
            for point, size in [((0, 0), 2), ((R, Root(-1, 0, 3)), 4)]:
                told = [moved(corner, FAR) for corner in near.near(point, size)]
                self.assertEqual(far.near(added(point, place(FAR)), size), sorted(told))

    def test_wrong(self):
        floor = Floor((0, 0))
        for thing in bad_points():
            for deed in (lambda point: floor.near(point, 13), lambda point: floor.near(point, 0), floor.tiles_over):
                with self.assertRaises(BadPoint) as caught:
                    deed(thing)
                self.assertIs(caught.exception.point, thing)
        for thing in bad_sizes(12):
            with self.assertRaises(BadSize) as caught:
                floor.near((0, 0), thing)
            self.assertIs(caught.exception.size, thing)


class TestTilesOver(unittest.TestCase):
    def tiles(self, floor, middle):
        return sorted({tile for corner in floor.near(middle, 2) for tile in floor.tiles_at(corner)})

    def test_middles_corners_and_rims(self):
        for shift in SHIFTS + [added(SHIFTS[3], star(FAR))]:
            floor = Floor(shift)
            middle = place(FAR) if shift not in SHIFTS else (0, 0)
            for tile in self.tiles(floor, middle):
                a, b, c, d = [place(corner) for corner in tile_corners(tile)]
                self.assertEqual(floor.tiles_over(scaled(HALF, added(a, d))), [tile])
                inner = added(scaled(1 - TINY, a), scaled(TINY, scaled(HALF, added(a, d))))
                self.assertEqual(floor.tiles_over(inner), [tile])
                for side in range(4):
                    one, other = [place(corner) for corner in ends(tile, side)]
                    for part in (HALF, TINY):
                        rim = added(scaled(part, one), scaled(1 - part, other))
                        self.assertEqual(floor.tiles_over(rim), sorted([tile, floor.across(tile, side)]))
            for corner in floor.near(middle, 1):
                self.assertEqual(floor.tiles_over(place(corner)), sorted(floor.tiles_at(corner)))

    def test_each_point_lies_in_some(self):
        dice = seeded(52)
        floor = Floor(SHIFTS[2])
        for _ in range(80):
            point = (some_root(dice, 20, 9), some_root(dice, 20, 9))
            told = floor.tiles_over(point)
            self.assertGreaterEqual(len(told), 1)
            self.assertEqual(told, sorted(told))
            for tile in told:
                self.assertTrue(floor.has_tile(tile))


class TestAround(unittest.TestCase):
    def rings(self, floor, corner, steps):
        far = {corner: 0}
        row = [corner]
        for one in row:
            if far[one] < steps:
                for direction in floor.sides(one):
                    other = stepped(one, direction, 1)
                    if other not in far:
                        far[other] = far[one] + 1
                        row.append(other)
        return [sorted([one for one in row if far[one] == k]) for k in range(steps + 1)]

    def test_fewest_steps(self):
        for shift in SHIFTS[:4]:
            floor = Floor(shift)
            corner = own_corner(floor)
            for steps in (0, 1, 2, 5):
                self.assertEqual(floor.around(corner, steps), self.rings(floor, corner, steps))

    def test_eight_steps(self):
        floor = Floor((0, 0))
        told = floor.around(ZERO, 8)
        self.assertEqual([len(ring) for ring in told], [1, 8, 8, 8, 16, 32, 32, 24, 48])
        self.assertEqual(told, self.rings(floor, ZERO, 8))

    def test_far_away(self):
        near, far = Floor(SHIFTS[1]), Floor(added(SHIFTS[1], star(FAR)))
        corner = own_corner(near)
        told = [[moved(one, FAR) for one in ring] for ring in near.around(corner, 3)]
        self.assertEqual(far.around(moved(corner, FAR), 3), [sorted(ring) for ring in told])

    def test_wrong(self):
        floor = Floor((0, 0))
        for thing in bad_sizes(8):
            with self.assertRaises(BadSize) as caught:
                floor.around(ZERO, thing)
            self.assertIs(caught.exception.size, thing)


class TestStaying(unittest.TestCase):
    def test_lists_are_new(self):
        floor = Floor(SHIFTS[1])
        corner = own_corner(floor)
        for deed in (lambda: floor.near((0, 0), 3), lambda: floor.tiles_over((0, 0)), lambda: floor.around(corner, 2)):
            one, other = deed(), deed()
            self.assertIs(type(one), list)
            self.assertEqual(one, other)
            self.assertIsNot(one, other)
            one.clear()
            self.assertEqual(deed(), other)
        rings = floor.around(corner, 2)
        kept = [list(ring) for ring in rings]
        rings[1].clear()
        rings[0].append(ZERO)
        self.assertEqual(floor.around(corner, 2), kept)

    def test_arguments_stay(self):
        shift = (1, R)
        floor = Floor(shift)
        point = (0, Root(1, 0, 3))
        floor.near(point, 3)
        floor.tiles_over(point)
        self.assertEqual((shift, point), ((1, R), (0, Root(1, 0, 3))))
        self.assertIs(type(shift[0]), int)
        self.assertIs(type(point[0]), int)
        self.assertEqual(floor.shift, (1, R))

    def test_errors_change_nothing(self):
        floor = Floor((0, 0))
        for deed in (lambda: floor.across((ZERO, 0, 2), 0), lambda: floor.near((0, 0), 13), lambda: floor.sides(0)):
            with self.assertRaises(FloorError):
                deed()
        self.assertTrue(floor == Floor((0, 0)))
        self.assertEqual(len(floor.sides(ZERO)), 8)


if __name__ == "__main__":
    unittest.main()
