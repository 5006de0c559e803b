import copy
import time
import unittest
from itertools import combinations, permutations

import exact
import judges
import surds
from heaplets import APART, THREE, ZERO, bad_heaps, far_corner, heap_about, some_heap, tiles_of
from samples import HUGE, odd_things, odd_tuples, seeded
from test_floors import SHIFTS, bad_sizes
from test_heaps import digits
from test_tiles import WAYS, bad_tiles

from threetiles.corners import place, stepped
from threetiles.errors import (
    BadFloor, BadHeap, BadRibbon, BadSize, BadTile, FloorError, NoTile, NotHeld, SameWay)
from threetiles.floors import Floor, barred
from threetiles.lots import tile_bounds
from threetiles.pieces import Piece
from threetiles.points import added, taken
from threetiles.ribbons import along, crossing, far_along, side_bound, side_of, side_word
from threetiles.roots import Root
from threetiles.tiles import ribbons_of, tile_corners

R = Root(0, 1, 1)
FORTY = 10 ** 39 + 3


def bad_floors():
    """What is no Floor."""
    return odd_things() + odd_tuples() + [0, R, (0, 0), (R, R), Piece([]), [Floor((0, 0))], Floor, "Floor"]


def bad_ribbons():
    """What is no ribbon."""
    return odd_things() + odd_tuples() + [
        0, R, [0, 0], [0, 1], (4, 0), (-1, 0), (0, 0, 0), (0,), (True, 1), (False, 1), (0, True), (1, False), (0, R),
        (Root(0, 0, 1), 0), (0, Root(1, 0, 1)), ("0", 0), (0, "0"), (None, 0), (0, None), ((0, 0), 0), (HUGE, 0),
        ((0, 0),), Floor((0, 0)), (5, HUGE), (0, [0]), (0, (0,)),
    ]


def some_ribbon(dice, most, ways=(0, 1, 2, 3)):
    return (dice.choice(ways), dice.randint(-most, most))


def some_ribbons(dice, many, most):
    """Ribbons of so many unlike directions."""
    return [(k, dice.randint(-most, most)) for k in dice.sample(range(4), many)]


def low_corner(corner, ribbon):
    return corner[ribbon[0]] <= ribbon[1]


class TestCrossing(unittest.TestCase):
    def test_example(self):
        self.assertEqual(crossing(Floor((0, 0)), (0, 0), (2, 0)), ((0, 1, 0, 0), 0, 2))

    def test_tiles_of_floors(self):
        for shift in SHIFTS:
            floor = Floor(shift)
            for tile in tiles_of(floor, (0, 0), 5) + tiles_of(floor, (HUGE, -HUGE), 2):
                one, other = ribbons_of(tile)
                self.assertEqual(crossing(floor, one, other), tile)
                self.assertEqual(crossing(floor, other, one), tile)

    def test_any_two_cross(self):
        dice = seeded(151)
        for most in (1, 30, FORTY, HUGE):
            for shift in SHIFTS:
                floor = Floor(shift)
                for _ in range(8):
                    one, other = some_ribbons(dice, 2, most)
                    tile = crossing(floor, one, other)
                    self.assertIs(type(tile), tuple)
                    self.assertEqual(crossing(floor, other, one), tile)
                    self.assertEqual(ribbons_of(tile), tuple(sorted([one, other])))
                    self.assertTrue(floor.has_tile(tile))
                    self.assertTrue(judges.has_tile(shift, tile))

    def test_it_is_the_only_one(self):
        floor = Floor(SHIFTS[2])
        seen = {}
        for tile in tiles_of(floor, (0, 0), 9):
            self.assertNotIn(ribbons_of(tile), seen)
            seen[ribbons_of(tile)] = tile

    def test_wrong(self):
        for thing in bad_floors():
            for one in ((0, 0), None):
                with self.assertRaises(BadFloor) as caught:
                    crossing(thing, one, None)
                self.assertIs(caught.exception.floor, thing)
                self.assertIsInstance(caught.exception, FloorError)
        floor = Floor((0, 0))
        for thing in bad_ribbons():
            for other in ((1, 0), None, thing):
                with self.assertRaises(BadRibbon) as caught:
                    crossing(floor, thing, other)
                self.assertIs(caught.exception.ribbon, thing)
            with self.assertRaises(BadRibbon) as caught:
                crossing(floor, (1, 0), thing)
            self.assertIs(caught.exception.ribbon, thing)
        for k in range(4):
            for one, other in [((k, 0), (k, 1)), ((k, 5), (k, 5)), ((k, HUGE), (k, -HUGE))]:
                with self.assertRaises(SameWay):
                    crossing(floor, one, other)


class TestAlong(unittest.TestCase):
    def assert_next(self, floor, ribbon, tile, other):
        """Judges whether a tile is the next one forth, by the words of the document."""
        k = ribbon[0]
        shared = sorted(set(tile_corners(tile)) & set(tile_corners(other)))
        self.assertEqual(len(shared), 2)
        self.assertEqual(exact.moved(shared[0], k), shared[1])
        rest = sorted(set(tile_corners(tile)) - set(shared))
        self.assertEqual(exact.moved(rest[0], k), rest[1])
        # The shared side lies farther in the direction k + 2 than the other one of this direction.
        way = place(stepped(ZERO, k + 2, 1))
        ahead = taken(place(shared[0]), place(rest[0]))
        self.assertEqual((ahead[0] * way[0] + ahead[1] * way[1]).sign(), 1)
        self.assertTrue(judges.has_tile(floor.shift, other))
        self.assertIn(ribbon, ribbons_of(other))

    def test_one_by_one(self):
        dice = seeded(152)
        for shift in SHIFTS:
            floor = Floor(shift)
            for ribbon in [some_ribbon(dice, 5) for _ in range(6)] + [(k, 10 ** 50) for k in range(4)]:
                tile = crossing(floor, ribbon, ((ribbon[0] + 1) % 4, dice.randint(-5, 5)))
                self.assertEqual(along(floor, ribbon, tile, 0), tile)
                for _ in range(5):
                    other = along(floor, ribbon, tile, 1)
                    self.assert_next(floor, ribbon, tile, other)
                    self.assertEqual(along(floor, ribbon, other, -1), tile)
                    self.assertEqual(far_along(floor, ribbon, tile, other), 1)
                    self.assertEqual(far_along(floor, ribbon, other, tile), -1)
                    tile = other

    def test_all_sorts_of_steps(self):
        floor = Floor(SHIFTS[1])
        seen = set()
        for tile in tiles_of(floor, (0, 0), 5):
            for ribbon in ribbons_of(tile):
                other = along(floor, ribbon, tile, 1)
                self.assert_next(floor, ribbon, tile, other)
                seen.add((ribbon[0], tile[1:], other[1:]))
        self.assertEqual(len({step[:2] for step in seen}), 12)
        self.assertGreater(len(seen), 25)

    def test_many_at_once(self):
        dice = seeded(153)
        for shift in SHIFTS[:4]:
            floor = Floor(shift)
            ribbon = some_ribbon(dice, FORTY)
            tile = crossing(floor, ribbon, ((ribbon[0] + 2) % 4, dice.randint(-FORTY, FORTY)))
            begin = time.monotonic()
            row = [along(floor, ribbon, tile, many) for many in (-400, -399, -1, 0, 1, 150, 400)]
            self.assertLess(time.monotonic() - begin, 10)
            for one, many in zip(row, (-400, -399, -1, 0, 1, 150, 400)):
                self.assertEqual(far_along(floor, ribbon, tile, one), many)
                self.assertEqual(far_along(floor, ribbon, one, tile), -many)
                self.assertEqual(along(floor, ribbon, one, -many), tile)
            self.assert_next(floor, ribbon, row[0], row[1])
            self.assertEqual(along(floor, ribbon, row[0], 399), row[2])
            self.assertEqual(along(floor, ribbon, along(floor, ribbon, row[6], 150), -150), row[6])
            self.assertEqual(far_along(floor, ribbon, row[0], row[6]), 800)

    def test_wrong(self):
        floor = Floor((0, 0))
        tile = crossing(floor, (0, 0), (2, 0))
        far = along(floor, (0, 0), tile, 3)
        deeds = [(along, (0, 1)), (far_along, (tile, None))]
        for deed, (good, bad) in deeds:
            for thing in bad_floors():
                with self.assertRaises(BadFloor) as caught:
                    deed(thing, None, None, bad)
                self.assertIs(caught.exception.floor, thing)
            for thing in bad_ribbons():
                for other in (tile, None):
                    with self.assertRaises(BadRibbon) as caught:
                        deed(floor, thing, other, bad)
                    self.assertIs(caught.exception.ribbon, thing)
            for thing in bad_tiles():
                with self.assertRaises(BadTile) as caught:
                    deed(floor, (0, 0), thing, bad)
                self.assertIs(caught.exception.tile, thing)
            # Tiles that the floor has not got, and such as it has, but not the ribbon.
            for ribbon, thing in [((0, 0), (ZERO, 0, 2)), ((1, 0), tile), ((3, 0), tile), ((0, 1), tile), ((2, 1), tile),
                                  ((0, 0), ((0, 1, 0, 0), 1, 2)), ((0, HUGE), ((HUGE, 0, 0, 0), 0, 1))]:
                with self.assertRaises(NoTile) as caught:
                    deed(floor, ribbon, thing, bad)
                self.assertIs(caught.exception.tile, thing)
        self.assertFalse(floor.has_tile((ZERO, 0, 2)))
        for thing in bad_sizes(400):
            if thing != -1:
                with self.assertRaises(BadSize) as caught:
                    along(floor, (0, 0), tile, thing)
                self.assertIs(caught.exception.size, thing)
        for thing in (401, -401, HUGE, -HUGE):
            with self.assertRaises(BadSize) as caught:
                along(floor, (0, 0), tile, thing)
            self.assertEqual(caught.exception.size, thing)
        for thing in bad_tiles():
            with self.assertRaises(BadTile) as caught:
                far_along(floor, (0, 0), far, thing)
            self.assertIs(caught.exception.tile, thing)
        for thing in [(ZERO, 0, 2), ((1, 1, 1, 1), 0, 1), next(t for t in tiles_of(floor, (0, 0), 2) if (0, 0) not in ribbons_of(t))]:
            with self.assertRaises(NoTile) as caught:
                far_along(floor, (0, 0), far, thing)
            self.assertIs(caught.exception.tile, thing)


class TestFarAlong(unittest.TestCase):
    def test_there_and_back(self):
        dice = seeded(154)
        for shift in SHIFTS:
            floor = Floor(shift)
            ribbon = some_ribbon(dice, 9)
            tile = crossing(floor, ribbon, ((ribbon[0] + 3) % 4, 0))
            self.assertEqual(far_along(floor, ribbon, tile, tile), 0)
            row = [tile]
            for _ in range(150):
                row.append(along(floor, ribbon, row[-1], 1))
            for _ in range(40):
                one, other = dice.randrange(151), dice.randrange(151)
                self.assertEqual(far_along(floor, ribbon, row[one], row[other]), other - one)

    def test_very_far(self):
        dice = seeded(155)
        for shift in SHIFTS[:5]:
            floor = Floor(shift)
            ribbon = some_ribbon(dice, 20)
            ends = []
            for number in (-FORTY, 0, FORTY):
                ends.append(crossing(floor, ribbon, ((ribbon[0] + 1) % 4, number)))
            one, middle, other = ends
            self.assertEqual(far_along(floor, ribbon, one, other),
                             far_along(floor, ribbon, one, middle) + far_along(floor, ribbon, middle, other))
            self.assertGreater(abs(far_along(floor, ribbon, one, other)), FORTY)
            step = along(floor, ribbon, other, 7)
            self.assertEqual(far_along(floor, ribbon, one, step), far_along(floor, ribbon, one, other) + 7)
            self.assertIs(type(far_along(floor, ribbon, one, other)), int)


class TestSideOf(unittest.TestCase):
    def test_low_and_high(self):
        dice = seeded(156)
        seen = {"low": 0, "high": 0}
        for shift in SHIFTS:
            floor = Floor(shift)
            for most in (2, 9, FORTY):
                for _ in range(10):
                    one, other, third = some_ribbons(dice, 3, most)
                    tile = crossing(floor, one, other)
                    sides = {low_corner(corner, third) for corner in tile_corners(tile)}
                    self.assertEqual(len(sides), 1)
                    told = side_of(floor, one, other, third)
                    self.assertEqual(told, "low" if sides == {True} else "high")
                    self.assertEqual(side_of(floor, other, one, third), told)
                    seen[told] += 1
        self.assertGreater(min(seen.values()), 40, seen)

    def test_at_the_tile(self):
        for shift in SHIFTS:
            floor = Floor(shift)
            for tile in tiles_of(floor, (1, 1), 2):
                one, other = ribbons_of(tile)
                for k in range(4):
                    if k not in tile[1:]:
                        self.assertEqual(side_of(floor, one, other, (k, tile[0][k])), "low")
                        self.assertEqual(side_of(floor, one, other, (k, tile[0][k] - 1)), "high")

    def test_wrong(self):
        floor = Floor((0, 0))
        for thing in bad_floors():
            with self.assertRaises(BadFloor) as caught:
                side_of(thing, None, None, None)
            self.assertIs(caught.exception.floor, thing)
        check_three(self, lambda one, other, third: side_of(floor, one, other, third))


def check_three(case, deed):
    """Checks what is raised for three ribbons that are none or not of three directions."""
    for thing in bad_ribbons():
        for three in [(thing, (1, 0), (2, 0)), (thing, None, None), (thing, (1, 0), (1, 0)), ((0, 0), thing, (2, 0)),
                      ((0, 0), thing, None), ((0, 0), (0, 0), thing), ((0, 0), (1, 0), thing)]:
            with case.assertRaises(BadRibbon) as caught:
                deed(*three)
            case.assertIs(caught.exception.ribbon, thing)
    for k in range(4):
        for three in [((k, 0), (k, 1), ((k + 1) % 4, 0)), ((k, 0), ((k + 1) % 4, 0), (k, 5)), (((k + 1) % 4, 0), (k, 0), (k, 1)),
                      ((k, 0), (k, 0), (k, 0))]:
            with case.assertRaises(SameWay):
                deed(*three)


class TestSideBound(unittest.TestCase):
    def test_lets_just_the_low_ones(self):
        dice = seeded(157)
        seen = {True: 0, False: 0}
        for most in (2, 9, FORTY):
            for shift in SHIFTS:
                for _ in range(8):
                    one, other, third = some_ribbons(dice, 3, most)
                    bound = side_bound(one, other, third)
                    self.assertIs(type(bound), tuple)
                    lets = Piece([bound]).has(shift)
                    self.assertEqual(side_of(Floor(shift), one, other, third), "low" if lets else "high")
                    self.assertEqual(side_bound(other, one, third), bound)
                    seen[lets] += 1
        self.assertGreater(min(seen.values()), 40, seen)

    def test_close_to_its_line(self):
        dice = seeded(158)
        little = Root(1, 0, 10 ** 40 + 1)
        for ways in permutations(range(4), 3):
            one, other, third = [(k, dice.randint(-9, 9)) for k in ways]
            d, number = side_bound(one, other, third)
            self.assertIn(d, range(8))
            vx, vy = surds.VECTORS[d]
            for along_line in (0, Root(5, 2, 7), -3):
                # A point on the line, and two on either side of it, close to it.
                length = vx * vx + vy * vy
                on = (number.over(length) * vx - along_line * vy, number.over(length) * vy + along_line * vx)
                self.assertIsNotNone(barred(on))
                for sign, side in [(-1, "low"), (1, "high")]:
                    shift = added(on, (sign * little * vx, sign * little * vy))
                    self.assertIsNone(barred(shift))
                    self.assertEqual(side_of(Floor(shift), one, other, third), side)
                    tile = crossing(Floor(shift), one, other)
                    self.assertTrue(judges.has_tile(shift, tile))
                    self.assertIs(low_corner(tile[0], third), side == "low")
                    self.assertIs(Piece([(d, number)]).has(shift), side == "low")

    def test_wrong(self):
        check_three(self, side_bound)


class TestSideWord(unittest.TestCase):
    def assert_word(self, heap, one, other, third):
        told = side_word(heap, one, other, third)
        self.assertIs(type(told), tuple)
        d, number = side_bound(one, other, third)
        beyond = ((d + 4) % 8, -number)
        rows = [bound for tile in heap for bound in tile_bounds(tile)]
        if told[0] == "open":
            self.assertEqual(len(told), 3)
            for shift, side in zip(told[1:], ("low", "high")):
                self.assertTrue(judges.is_let(shift))
                self.assertTrue(judges.has_all(shift, heap))
                self.assertEqual(side_of(Floor(shift), one, other, third), side)
                self.assertTrue(all([type(part) is Root for part in shift]))
                self.assertLessEqual(digits(shift), 400)
        else:
            self.assertEqual(len(told), 2)
            self.assertTrue(judges.is_press(rows, (d, number) if told[0] == "low" else beyond, told[1]), told)
        return told

    def test_some(self):
        dice = seeded(159)
        seen = {"low": 0, "high": 0, "open": 0}
        for _ in range(90):
            floor = Floor(dice.choice(SHIFTS[:5]))
            heap = some_heap(dice, tiles_of(floor, (0, 0), 3), 2)
            one, other, third = some_ribbons(dice, 3, 4)
            told = self.assert_word(heap, one, other, third)
            d, number = side_bound(one, other, third)
            polygon = surds.heap_polygon(heap)
            expected = "open"
            if surds.lies_in(polygon, [(d, surds.surd(number))]):
                expected = "low"
            elif surds.lies_in(polygon, [((d + 4) % 8, -surds.surd(number))]):
                expected = "high"
            self.assertEqual(told[0], expected)
            if told[0] != "open":
                self.assertEqual(side_of(floor, one, other, third), told[0])
            self.assertEqual(side_word(heap, other, one, third)[0], told[0])
            self.assertEqual(side_word(tuple(heap), one, other, third), told)
            seen[told[0]] += 1
        self.assertGreater(min(seen.values()), 5, seen)

    def test_crossings_of_tiles_of_the_heap(self):
        # A tile of the heap shows where its ribbons cross, so that their side is sure.
        for shift in SHIFTS[:5]:
            for tile in tiles_of(Floor(shift), (0, 0), 1):
                one, other = ribbons_of(tile)
                for k in range(4):
                    if k not in tile[1:]:
                        self.assertEqual(self.assert_word([tile], one, other, (k, tile[0][k]))[0], "low")
                        self.assertEqual(self.assert_word((tile,), one, other, (k, tile[0][k] - 1))[0], "high")

    def test_empty_heap(self):
        for heap in ([], ()):
            for ways in combinations(range(4), 3):
                one, other, third = [(k, 7 - 3 * k) for k in ways]
                self.assertEqual(self.assert_word(heap, one, other, third)[0], "open")
                one, other, third = [(k, FORTY * (k - 2)) for k in ways]
                self.assertEqual(self.assert_word(heap, one, other, third)[0], "open")

    def test_little_is_left(self):
        shift = (Root(1, 0, 3), Root(2, 1, 7))
        heap = heap_about(shift, 5)
        dice = seeded(160)
        for _ in range(30):
            one, other, third = some_ribbons(dice, 3, 20)
            told = self.assert_word(heap, one, other, third)
            if told[0] != "open":
                self.assertEqual(told[0], side_of(Floor(shift), one, other, third))

    def test_wrong(self):
        for heap, index in bad_heaps():
            with self.assertRaises(BadHeap) as caught:
                side_word(heap, None, None, None)
            self.assertEqual(caught.exception.index, index)
        for heap in (THREE, tuple(APART)):
            for three in [(None, None, None), ((0, 0), (0, 0), (0, 0)), ((0, 0), (1, 0), (2, 0))]:
                with self.assertRaises(NotHeld):
                    side_word(heap, *three)
        for heap in ([], THREE[:2]):
            check_three(self, lambda one, other, third: side_word(heap, one, other, third))

    def test_nothing_changes(self):
        heap = THREE[:2]
        kept = copy.deepcopy(heap)
        told = side_word(heap, (0, 1), (1, 2), (3, 0))
        self.assertEqual(side_word(heap, (0, 1), (1, 2), (3, 0)), told)
        self.assertEqual(heap, kept)


if __name__ == "__main__":
    unittest.main()
