import unittest

from threetiles.points import added, is_point, scaled, square, taken
from threetiles.roots import Root

from samples import HUGE, odd_things, odd_tuples, seeded, some_root

R = Root(0, 1, 1)


class TestPoints(unittest.TestCase):
    def both_roots(self, point):
        self.assertIs(type(point), tuple)
        self.assertEqual([type(part) for part in point], [Root, Root])

    def test_is_point(self):
        for thing in [(0, 0), (R, 1), (-1, R), (R, R), (HUGE, -HUGE)]:
            self.assertIs(is_point(thing), True)
        for thing in odd_things() + odd_tuples() + [0, 1.5, (1.5, 0), (0, 2j), {0, 1}, R, [R, R], (R, R, R)]:
            self.assertIs(is_point(thing), False)

    def test_added_and_taken(self):
        for one, other in [((1, 2), (3, -4)), ((R, 2), (3, -R)), ((R, R), (R, R)), ((1, R), (2, 3))]:
            total, rest = added(one, other), taken(one, other)
            self.both_roots(total)
            self.both_roots(rest)
            self.assertEqual(total, (one[0] + other[0], one[1] + other[1]))
            self.assertEqual(rest, (one[0] - other[0], one[1] - other[1]))
        self.assertEqual(added((1, 2), (3, -4)), (4, -2))
        self.assertEqual(taken((1, 2), (3, -4)), (-2, 6))
        self.assertEqual(taken((HUGE, R), (HUGE, R)), (0, 0))

    def test_scaled(self):
        self.assertEqual(scaled(3, (1, -2)), (3, -6))
        self.assertEqual(scaled(R, (1, R)), (R, 2))
        self.assertEqual(scaled(Root(1, 0, 2), (R, 4)), (Root(0, 1, 2), 2))
        for number in (0, 3, R):
            for point in [(1, 2), (R, 1), (R, R)]:
                self.both_roots(scaled(number, point))
        self.assertEqual(scaled(0, (R, 5)), (0, 0))

    def test_square(self):
        self.assertEqual(square((3, 4)), 25)
        self.assertIs(type(square((3, 4))), Root)
        self.assertIs(type(square((0, 0))), Root)
        self.assertEqual(square((R, 1)), 3)
        self.assertEqual(square((Root(1, 1, 1), 0)), Root(3, 2, 1))
        self.assertEqual(square((-HUGE, 0)), HUGE * HUGE)

    def test_laws_hold(self):
        dice = seeded(21)
        for _ in range(60):
            one = (some_root(dice, 99, 9), some_root(dice, 99, 9))
            other = (some_root(dice, 99, 9), dice.randint(-9, 9))
            self.assertEqual(taken(added(one, other), other), one)
            self.assertEqual(added(one, one), scaled(2, one))
            self.assertEqual(square(scaled(R, one)), 2 * square(one))

    def test_arguments_stay(self):
        one, other = (1, R), (R, 2)
        added(one, other), taken(one, other), scaled(R, one), square(one)
        self.assertEqual((one, other), ((1, R), (R, 2)))
        self.assertIs(type(one[0]), int)


if __name__ == "__main__":
    unittest.main()
