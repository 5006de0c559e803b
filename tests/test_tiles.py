import unittest

from threetiles.corners import place, stepped
from threetiles.errors import BadTile, FloorError
from threetiles.points import square, taken
from threetiles.roots import Root
from threetiles.tiles import ribbons_of, tile_corners

from samples import HUGE, odd_things, odd_tuples, seeded, some_corner

ZERO = (0, 0, 0, 0)
WAYS = [(0, 1), (0, 2), (0, 3), (1, 2), (1, 3), (2, 3)]


def bad_tiles():
    return odd_things() + odd_tuples() + [
        ZERO, [ZERO, 0, 1], (ZERO, 0, 0), (ZERO, 1, 0), (ZERO, 3, 3), (ZERO, 0, 4), (ZERO, -1, 2), (ZERO, 3, 4),
        (ZERO, False, 1), (ZERO, 0, True), (ZERO, None, 1), (ZERO, 0, "1"), (ZERO, Root(0, 0, 1), 1),
        (ZERO, 0, Root(1, 0, 1)), ([0, 0, 0, 0], 0, 1), ((0, 0, 0), 0, 1), ((0, 0, 0, True), 0, 1),
        ((0, 0, 0, Root(0, 0, 1)), 0, 1), (ZERO, 0, 1, 2), (ZERO, 0), (ZERO, (0, 1)), (None, 0, 1), (0, 1, ZERO),
    ]


class TestTiles(unittest.TestCase):
    def test_corners(self):
        self.assertEqual(tile_corners((ZERO, 0, 1)), (ZERO, (0, 1, 0, 0), (1, 0, 0, 0), (1, 1, 0, 0)))
        self.assertEqual(
            tile_corners(((1, -2, 3, 4), 2, 3)), ((1, -2, 3, 4), (1, -2, 3, 5), (1, -2, 4, 4), (1, -2, 4, 5)))
        dice = seeded(41)
        for most in (3, HUGE):
            for i, j in WAYS:
                own = some_corner(dice, most)
                one, other = stepped(own, i, 1), stepped(own, j, 1)
                told = tile_corners((own, i, j))
                self.assertIs(type(told), tuple)
                self.assertEqual(list(told), sorted([own, one, other, stepped(one, j, 1)]))

    def test_sides_have_the_length_one(self):
        for i, j in WAYS:
            a, b, c, d = tile_corners((ZERO, i, j))
            for one, other in [(a, b), (a, c), (b, d), (c, d)]:
                self.assertEqual(square(taken(place(one), place(other))), 1)

    def test_ribbons(self):
        self.assertEqual(ribbons_of(((5, 6, 7, 8), 0, 2)), ((0, 5), (2, 7)))
        self.assertEqual(ribbons_of(((5, 6, 7, -8), 1, 3)), ((1, 6), (3, -8)))
        dice = seeded(42)
        for i, j in WAYS:
            own = some_corner(dice, HUGE)
            told = ribbons_of((own, i, j))
            self.assertEqual(told, ((i, own[i]), (j, own[j])))
            self.assertEqual(told, tuple(sorted(told)))

    def test_wrong(self):
        for thing in bad_tiles():
            for judge in (tile_corners, ribbons_of):
                with self.assertRaises(BadTile) as caught:
                    judge(thing)
                self.assertIs(caught.exception.tile, thing)
                self.assertIsInstance(caught.exception, FloorError)


if __name__ == "__main__":
    unittest.main()
