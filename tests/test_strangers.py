import time
import unittest

import exact
import judges
from heaplets import ZERO, tiles_of
from samples import HUGE, odd_things, odd_tuples, seeded
from test_absents import over_the_eighth
from test_corners import bad_corners
from test_floors import SHIFTS
from test_heaps import digits
from test_tiles import WAYS

from threetiles.corners import place
from threetiles.errors import BadCorner, BadSize, BadStranger, FloorError
from threetiles.floors import Floor
from threetiles.heaps import held
from threetiles.roots import Root
from threetiles.strangers import refuted
from threetiles.tiles import tile_corners

NEAR = [floor.near((0, 0), 2)[0] for floor in map(Floor, SHIFTS)]


def about(corner):
    """The 24 tiles that have a corner."""
    found = set()
    for eighth in range(8):
        found.update(over_the_eighth(corner, eighth))
    return sorted(found)


def sides_at(corner, tile):
    """The corners that are reached from a corner along one side of a tile."""
    return [exact.moved(corner, d) for d in range(8) if exact.moved(corner, d) in tile_corners(tile)
            and d % 4 in tile[1:]]


class Asked:
    """A stranger of which what it was asked is kept."""

    def __init__(self, tell):
        self.tell = tell
        self.asked = []

    def __call__(self, tile):
        self.asked.append(tile)
        return self.tell(tile)


def corners_for(tell, corner, steps):
    """The corners for all of whose tiles a stranger is asked."""
    found = {corner}
    if steps == 2:
        for tile in about(corner):
            if tell(tile):
                found.update(sides_at(corner, tile))
    return sorted(found)


def is_right(tell, corner, steps, paper):
    """Whether an answer is right, by the words of the document."""
    corners = corners_for(tell, corner, steps)
    asked = {tile for other in corners for tile in about(other)}
    told = {tile for tile in asked if tell(tile)}
    if not [tile for tile in about(corner) if tell(tile)]:
        return paper == ("none",)
    if judges.is_paper(paper, "bars", 3):
        tiles = paper[1]
        if type(tiles) is not tuple or not 0 < len(tiles) <= 3 or list(tiles) != sorted(set(tiles)):
            return False
        return set(tiles) <= told and judges.is_bars(judges.rows_for(tiles), paper[2])
    if judges.is_paper(paper, "gap", 2):
        if paper[1] not in corners:
            return False
        return any([len(told & set(over_the_eighth(paper[1], eighth))) != 1 for eighth in range(8)])
    if not judges.is_paper(paper, "fits", 2) or not judges.is_let(paper[1]):
        return False
    return judges.has_all(paper[1], sorted(told)) and not any(
        [judges.has_tile(paper[1], tile) for tile in asked - told])


def mixed(one, other, line):
    """A stranger who speaks of one floor on the left of a line and of another one on the right."""
    return lambda tile: (one if place(tile[0])[0].less(line) else other).has_tile(tile)


class TestRefuted(unittest.TestCase):
    def assert_right(self, tell, corner, steps):
        stranger = Asked(tell)
        told = refuted(stranger, corner, steps)
        self.assertIs(type(told), tuple)
        self.assertTrue(is_right(tell, corner, steps, told), (corner, steps, told))
        expected = {tile for other in corners_for(tell, corner, steps) for tile in about(other)}
        self.assertEqual(set(stranger.asked), expected)
        if told[0] == "fits":
            self.assertTrue(all([type(part) is Root for part in told[1]]))
            self.assertLessEqual(digits(told[1]), 400)
        if told[0] == "bars":
            self.assertIs(type(told[1]), tuple)
        self.assertEqual(refuted(tell, corner, steps), told)
        return told[0]

    def test_one_floor(self):
        for shift, near in zip(SHIFTS, NEAR):
            floor = Floor(shift)
            for corner in floor.near((0, 0), 2)[::4] + [near]:
                for steps in (1, 2):
                    self.assertEqual(self.assert_right(floor.has_tile, corner, steps), "fits")

    def test_none_of_the_first_24(self):
        for shift in SHIFTS[:5]:
            floor = Floor(shift)
            for corner in [(5, 5, 5, 5), (1, 2, 3, 4), (-2, 0, 0, 0)]:
                if floor.has_corner(corner):
                    continue
                for steps in (1, 2):
                    self.assertEqual(refuted(floor.has_tile, corner, steps), ("none",))
                    self.assert_right(floor.has_tile, corner, steps)
        for steps in (1, 2):
            self.assertEqual(refuted(lambda tile: False, ZERO, steps), ("none",))
            # It tells much, but nothing that has the corner.
            self.assertEqual(refuted(lambda tile: ZERO not in tile_corners(tile), ZERO, steps), ("none",))

    def test_too_much(self):
        for steps in (1, 2):
            self.assertEqual(self.assert_right(lambda tile: True, ZERO, steps), "bars")
            self.assertEqual(self.assert_right(lambda tile: True, (123456, -999999, 3, 4), steps), "bars")
            for i, j in WAYS:
                self.assertIn(self.assert_right(lambda tile: tile[1:] == (i, j), ZERO, steps), ("bars", "gap"))
        # All that one floor has, and one tile more.
        floor = Floor(SHIFTS[1])
        corner = floor.near((0, 0), 2)[0]
        for more in about(corner):
            kind = self.assert_right(lambda tile: tile == more or floor.has_tile(tile), corner, 1)
            self.assertEqual(kind, "fits" if floor.has_tile(more) else "bars")

    def test_a_gap(self):
        floor = Floor(SHIFTS[2])
        for corner in floor.near((0, 0), 2)[:3]:
            for tile in floor.tiles_at(corner):
                for steps in (1, 2):
                    told = refuted(lambda other: other != tile and floor.has_tile(other), corner, steps)
                    self.assertIn(told[0], ("gap",))
                    self.assert_right(lambda other: other != tile and floor.has_tile(other), corner, steps)
                    # That tile alone.
                    self.assertEqual(refuted(lambda other: other == tile, corner, steps)[0], "gap")
                    self.assert_right(lambda other: other == tile, corner, steps)

    def test_a_gap_farther_out(self):
        floor = Floor(SHIFTS[2])
        many = 0
        for corner in floor.near((0, 0), 2)[:4]:
            here = floor.tiles_at(corner)
            for tile in {tile for d in floor.sides(corner) for tile in floor.tiles_at(exact.moved(corner, d))} - set(here):
                def tell(other):
                    return other != tile and floor.has_tile(other)
                self.assertEqual(self.assert_right(tell, corner, 1), "fits")
                self.assertEqual(self.assert_right(tell, corner, 2), "gap")
                self.assertNotEqual(refuted(tell, corner, 2), ("gap", corner))
                many += 1
        self.assertGreater(many, 10)

    def test_overlapping_without_bars_is_no_gap_to_be_missed(self):
        # Two tiles over one eighth of the round are barred, whatever else is told.
        floor = Floor(SHIFTS[3])
        corner = floor.near((0, 0), 2)[0]
        for eighth in range(8):
            for one in over_the_eighth(corner, eighth):
                for other in over_the_eighth(corner, eighth):
                    kind = refuted(lambda tile: tile in (one, other), corner, 1)[0]
                    self.assertEqual(kind, "gap" if one == other else "bars")

    def test_three_tiles_bar(self):
        # Some floor has each two of them.
        three = [((-2, -1, 0, 0), 0, 1), ((-1, 0, -1, 0), 0, 2), ((-1, 0, 0, 0), 0, 2)]
        for tile in three:
            self.assertEqual(held([other for other in three if other != tile])[0], "floor")
            self.assertEqual(self.assert_right(lambda other: other in three and other != tile, ZERO, 2), "gap")
        self.assertEqual(self.assert_right(lambda tile: tile in three, ZERO, 2), "bars")
        self.assertEqual(refuted(lambda tile: tile in three, ZERO, 2)[1], tuple(three))
        self.assertEqual(self.assert_right(lambda tile: tile in three, ZERO, 1), "gap")

    def test_two_floors(self):
        dice = seeded(242)
        seen = {}
        for turn in range(16):
            one, other = [Floor(shift) for shift in dice.sample(SHIFTS[:5], 2)]
            tell = mixed(one, other, Root(dice.randint(-8, 8), 0, 5))
            for corner in one.near((0, 0), 1)[:3] + other.near((0, 0), 1)[-2:]:
                for steps in (1, 2):
                    kind = self.assert_right(tell, corner, steps)
                    seen[steps, kind] = seen.get((steps, kind), 0) + 1
        for kind in ("fits", "bars", "gap"):
            self.assertGreater(seen.get((1, kind), 0), 2, seen)
            self.assertGreater(seen.get((2, kind), 0), 2, seen)

    def test_of_no_floor(self):
        # Who tells as it likes, but the same for equal ones.
        seen = {}
        for turn in range(60):
            dice = seeded(243 + turn)
            told = {}
            share = (1, 3, 8, 24)[turn % 4]

            def tell(tile):
                return told.setdefault(tile, dice.randint(1, 24) <= share)
            for tile in about(ZERO):
                tell(tile)
            kind = self.assert_right(tell, ZERO, turn % 2 + 1)
            seen[kind] = seen.get(kind, 0) + 1
        self.assertLessEqual({"none", "gap", "bars"}, set(seen))

    def test_just_one_kind_is_right(self):
        # Where it fits there are no bars and no gap, and the other way about.
        dice = seeded(244)
        for turn in range(30):
            one, other = [Floor(shift) for shift in dice.sample(SHIFTS[:5], 2)]
            tell = mixed(one, other, Root(dice.randint(-8, 8), 0, 5))
            corner = one.near((0, 0), 1)[0]
            told = refuted(tell, corner, 2)
            if told[0] in ("bars", "gap"):
                self.assertFalse(is_right(tell, corner, 2, ("fits", one.shift)))
                self.assertFalse(is_right(tell, corner, 2, ("fits", other.shift)))
            if told[0] == "fits":
                for far in corners_for(tell, corner, 2):
                    self.assertFalse(is_right(tell, corner, 2, ("gap", far)))

    def test_corners_of_six_digits(self):
        v = (987654, -876543, 0, 999999)
        for shift in SHIFTS[:4]:
            floor = Floor(shift)
            for corner in floor.near(place(v), 2)[:3]:
                for steps in (1, 2):
                    self.assertEqual(self.assert_right(floor.has_tile, corner, steps), "fits")

    def test_wrong(self):
        for thing in bad_corners():
            for steps in (None, 1):
                with self.assertRaises(BadCorner) as caught:
                    refuted(None, thing, steps)
                self.assertIs(caught.exception.corner, thing)
                self.assertIsInstance(caught.exception, FloorError)
        for thing in odd_things() + odd_tuples() + [0, 3, -1, HUGE, Root(1, 0, 1), (1,), "2"]:
            with self.assertRaises(BadSize) as caught:
                refuted(None, ZERO, thing)
            self.assertIs(caught.exception.size, thing)

    def test_no_flags(self):
        floor = Floor((0, 0))
        for thing in [None, 0, 1, "True", "", [], (), Root(1, 0, 1), floor, 1.0, (True,), b"", {}, object()]:
            for steps in (1, 2):
                with self.assertRaises(BadStranger) as caught:
                    refuted(lambda tile: thing, ZERO, steps)
                self.assertIsInstance(caught.exception, FloorError)
                # For one of the first tiles, whichever it is.
                for bad in about(ZERO):
                    with self.assertRaises(BadStranger):
                        refuted(lambda tile: thing if tile == bad else floor.has_tile(tile), ZERO, steps)
                    with self.assertRaises(BadStranger):
                        refuted(lambda tile: thing if tile == bad else False, ZERO, steps)
                    with self.assertRaises(BadStranger):
                        refuted(lambda tile: thing if tile == bad else True, ZERO, steps)

    def test_no_flag_farther_out(self):
        floor = Floor((0, 0))
        farther = {tile for d in range(8) for tile in about(exact.moved(ZERO, d))} - set(about(ZERO))
        for bad in sorted(farther)[::7]:
            def tell(tile):
                return None if tile == bad else floor.has_tile(tile)

            def tell_all(tile):
                return 1 if tile == bad else True
            self.assertEqual(refuted(tell, ZERO, 1)[0], "fits")
            self.assertEqual(refuted(tell_all, ZERO, 1)[0], "bars")
            for stranger in (tell, tell_all):
                with self.assertRaises(BadStranger):
                    refuted(stranger, ZERO, 2)
            # It is not asked there where nothing is told.
            self.assertEqual(refuted(lambda tile: None if tile == bad else False, ZERO, 2), ("none",))

    def test_errors_of_its_own(self):
        class Own(Exception):
            pass
        for kind in (Own, ValueError, KeyError, BadCorner, BadStranger, ZeroDivisionError, StopIteration):
            error = kind(0) if kind is BadCorner else kind()

            def tell(tile):
                raise error
            for steps in (1, 2):
                with self.assertRaises(kind) as caught:
                    refuted(tell, ZERO, steps)
                self.assertIs(caught.exception, error)
            # Farther out.
            floor = Floor((0, 0))

            def tell_near(tile):
                if tile not in about(ZERO):
                    raise error
                return floor.has_tile(tile)
            self.assertEqual(refuted(tell_near, ZERO, 1)[0], "fits")
            with self.assertRaises(kind) as caught:
                refuted(tell_near, ZERO, 2)
            self.assertIs(caught.exception, error)

    def test_in_time(self):
        begin = time.monotonic()
        refuted(lambda tile: True, ZERO, 2)
        for shift in SHIFTS:
            floor = Floor(shift)
            for corner in floor.near((0, 0), 2):
                refuted(floor.has_tile, corner, 2)
        self.assertLess(time.monotonic() - begin, 10)

    def test_of_a_heap(self):
        # Who tells just the tiles of a floor about one corner fits there, and leaves a gap one step farther.
        floor = Floor(SHIFTS[1])
        corner = floor.near((0, 0), 2)[0]
        heap = [tile for tile in tiles_of(floor, (0, 0), 6) if corner in tile_corners(tile)]
        self.assertEqual(sorted(heap), sorted(floor.tiles_at(corner)))
        self.assertEqual(self.assert_right(lambda tile: tile in heap, corner, 1), "fits")
        self.assertEqual(self.assert_right(lambda tile: tile in heap, corner, 2), "gap")


if __name__ == "__main__":
    unittest.main()
