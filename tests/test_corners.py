import unittest

from threetiles.corners import (
    corner_at, corner_with, greater, lesser, mirrored, place, star, stepped, turned)
from threetiles.errors import BadCorner, BadDirection, BadPoint, FloorError
from threetiles.points import added, scaled, square, taken
from threetiles.roots import Root

from samples import HUGE, odd_things, odd_tuples, seeded, some_corner

R = Root(0, 1, 1)
H = Root(0, 1, 2)
ZERO = (0, 0, 0, 0)
# The points at 0 to 7 eighths of a round, at the distance one.
ROUND = [(1, 0), (H, H), (0, 1), (-H, H), (-1, 0), (-H, -H), (0, -1), (H, -H)]


def some_corners():
    dice = seeded(31)
    return [some_corner(dice, most) for most in (1, 5, 1000, HUGE) for _ in range(25)]


def bad_corners():
    return odd_things() + odd_tuples() + [(0, 0), 0, Root(0, 0, 1), (0, 0, 0, R), [0, 0, 0, 0]]


class TestSteps(unittest.TestCase):
    def test_directions(self):
        for direction in range(4):
            told = stepped(ZERO, direction, 1)
            self.assertEqual(told, tuple([int(at == direction) for at in range(4)]))
            self.assertEqual(stepped(ZERO, direction + 4, 1), tuple([-int(at == direction) for at in range(4)]))

    def test_many(self):
        self.assertEqual(stepped((1, 2, 3, 4), 2, 5), (1, 2, 8, 4))
        self.assertEqual(stepped((1, 2, 3, 4), 6, 5), (1, 2, -2, 4))
        self.assertEqual(stepped((1, 2, 3, 4), 0, -7), (-6, 2, 3, 4))
        self.assertEqual(stepped((1, 2, 3, 4), 7, -7), (1, 2, 3, 11))
        self.assertEqual(stepped((1, 2, 3, 4), 5, 0), (1, 2, 3, 4))
        self.assertEqual(stepped((1, 2, 3, 4), 3, HUGE), (1, 2, 3, 4 + HUGE))

    def test_a_step_has_the_length_one(self):
        for direction in range(8):
            self.assertEqual(place(stepped(ZERO, direction, 1)), ROUND[direction])
            self.assertEqual(star(stepped(ZERO, direction, 1)), ROUND[3 * direction % 8])
            self.assertEqual(square(place(stepped(ZERO, direction, 3))), 9)

    def test_wrong(self):
        for thing in bad_corners():
            for direction in (0, 8, None):
                with self.assertRaises(BadCorner) as caught:
                    stepped(thing, direction, 1)
                self.assertIs(caught.exception.corner, thing)
        for thing in odd_things() + odd_tuples() + [-1, 8, HUGE, -HUGE, Root(1, 0, 1)]:
            with self.assertRaises(BadDirection) as caught:
                stepped(ZERO, thing, 1)
            self.assertIs(caught.exception.direction, thing)
        self.assertIsInstance(caught.exception, FloorError)


class TestPlaces(unittest.TestCase):
    def test_example(self):
        self.assertEqual(
            (place((0, 1, 0, 0)) == (Root(0, 1, 2), Root(0, 1, 2)), star((0, 1, 0, 0)) == (Root(0, -1, 2), Root(0, 1, 2)),
             greater((1, 0, 0, 0)), turned((1, 2, 3, 4), 1)),
            (True, True, (1, 1, 0, -1), (-4, 1, 2, 3)))

    def test_as_told(self):
        for corner in some_corners():
            x0, x1, x2, x3 = corner
            self.assertEqual(place(corner), (x0 + H * (x1 - x3), x2 + H * (x1 + x3)))
            self.assertEqual(star(corner), (x0 - H * (x1 - x3), -x2 + H * (x1 + x3)))
            self.assertEqual([type(part) for part in place(corner) + star(corner)], [Root] * 4)

    def test_back(self):
        for corner in some_corners():
            self.assertEqual(corner_at(place(corner)), corner)
            self.assertEqual(corner_with(star(corner)), corner)
        self.assertEqual(corner_at((0, 0)), ZERO)
        self.assertEqual(corner_with((0, 0)), ZERO)
        self.assertEqual(corner_at((3, -4)), (3, 0, -4, 0))
        self.assertEqual(corner_with((3, -4)), (3, 0, 4, 0))
        self.assertEqual(corner_at((R, 0)), (0, 1, 0, -1))
        self.assertEqual(corner_with((R, 0)), (0, -1, 0, 1))
        self.assertEqual(corner_at((0, R)), (0, 1, 0, 1))
        self.assertEqual(corner_with((Root(-5, 0, 1), H + H + 1)), (-5, 1, -1, 1))

    def test_points_of_none(self):
        none = [(H, 0), (0, H), (Root(1, 0, 2), 0), (0, Root(1, 0, 2)), (Root(0, 1, 4), Root(0, 1, 4)),
                (Root(1, 1, 3), 0), (R, H), (H, R), (0, Root(0, 1, 3)), (Root(1, 1, 2), Root(1, 1, 2)),
                (H * HUGE, H * (HUGE + 1))]
        for point in none:
            self.assertIsNone(corner_at(point))
            self.assertIsNone(corner_with(point))

    def test_wrong(self):
        for thing in bad_corners():
            for judge in (place, star):
                with self.assertRaises(BadCorner) as caught:
                    judge(thing)
                self.assertIs(caught.exception.corner, thing)
        for thing in odd_things() + odd_tuples() + [0, R, ZERO]:
            for judge in (corner_at, corner_with):
                with self.assertRaises(BadPoint) as caught:
                    judge(thing)
                self.assertIs(caught.exception.point, thing)


def point_turned(point, eighths):
    x, y = point
    for _ in range(eighths % 8):
        x, y = H * (x - y), H * (x + y)
    return (x, y)


class TestTurns(unittest.TestCase):
    def test_turned(self):
        self.assertEqual(turned((1, 2, 3, 4), 0), (1, 2, 3, 4))
        self.assertEqual(turned((1, 2, 3, 4), 4), (-1, -2, -3, -4))
        self.assertEqual(turned((1, 2, 3, 4), -1), (2, 3, 4, -1))
        self.assertEqual(turned((1, 2, 3, 4), 8 * HUGE + 1), (-4, 1, 2, 3))
        self.assertEqual(turned((1, 2, 3, 4), -8 * HUGE - 1), (2, 3, 4, -1))

    def test_places_and_stars_turn(self):
        for corner in some_corners():
            for eighths in (-9, -3, -1, 0, 1, 2, 5, 7, 8, 8 * HUGE + 3):
                other = turned(corner, eighths)
                self.assertEqual(place(other), point_turned(place(corner), eighths))
                self.assertEqual(star(other), point_turned(star(corner), 3 * eighths))
                self.assertEqual(turned(other, -eighths), corner)

    def test_mirrored(self):
        self.assertEqual(mirrored((1, 2, 3, 4)), (1, -4, -3, -2))
        for corner in some_corners():
            other = mirrored(corner)
            self.assertEqual(place(other), (place(corner)[0], -place(corner)[1]))
            self.assertEqual(star(other), (star(corner)[0], -star(corner)[1]))
            self.assertEqual(mirrored(other), corner)

    def test_greater_and_lesser(self):
        self.assertEqual(greater((1, 2, 3, 4)), (-1, 6, 9, 6))
        self.assertEqual(lesser((1, 1, 0, -1)), (1, 0, 0, 0))
        for corner in some_corners():
            self.assertEqual(place(greater(corner)), scaled(1 + R, place(corner)))
            self.assertEqual(star(greater(corner)), scaled(1 - R, star(corner)))
            self.assertEqual(place(lesser(corner)), scaled(R - 1, place(corner)))
            self.assertEqual(lesser(greater(corner)), corner)
            self.assertEqual(greater(lesser(corner)), corner)

    def test_sums(self):
        for one, other in zip(some_corners(), some_corners()[::-1]):
            both = tuple([a + b for a, b in zip(one, other)])
            self.assertEqual(place(both), added(place(one), place(other)))
            self.assertEqual(taken(star(both), star(one)), star(other))

    def test_wrong(self):
        for thing in bad_corners():
            for deed in (mirrored, greater, lesser, lambda corner: turned(corner, 3)):
                with self.assertRaises(BadCorner) as caught:
                    deed(thing)
                self.assertIs(caught.exception.corner, thing)


if __name__ == "__main__":
    unittest.main()
