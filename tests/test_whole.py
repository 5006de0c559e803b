"""What holds between the parts of the program."""

import unittest

import exact
from heaplets import THREE, ZERO, moved, some_heap, tiles_of
from samples import HUGE, seeded, some_corner
from test_floors import SHIFTS
from test_tiles import WAYS
from walking import GO, PROGRAMS, THERE, ask, turn

from threetiles.absents import is_tree, with_absent
from threetiles.asking import asks, is_plan
from threetiles.bars import bars
from threetiles.copies import copies, heap_moved, is_reach_lot, reach
from threetiles.corners import greater, mirrored, place, star, turned
from threetiles.desks import Desk
from threetiles.errors import Clash
from threetiles.floors import Floor
from threetiles.greater import greater_floor, led_up, lesser_floor, lowered, seam, stands
from threetiles.heaps import heap_piece, held, is_held
from threetiles.kinds import kind_lot, kinds, share_of, share_with
from threetiles.leasts import least_lots
from threetiles.lots import lozenge, tile_bounds, window
from threetiles.moving import floor_mirrored, floor_moved, floor_turned, moved_by, parting_tile, symmetries
from threetiles.outcomes import ends, farthest, goings, kinds_led, outcomes
from threetiles.pieces import Piece
from threetiles.points import added, scaled
from threetiles.programs import trail, walk
from threetiles.ribbons import crossing
from threetiles.roots import Root
from threetiles.strangers import refuted
from threetiles.texts import (
    number_text, read_floor, read_heap, read_number, read_program, write_floor, write_heap, write_program)
from threetiles.tiles import ribbons_of, tile_corners
from threetiles.walkers import alike, comes_home, meeting, needless
from threetiles.words import is_word, possible, word

FLOORS = [Floor(shift) for shift in SHIFTS]


def plus(one, other, times=1):
    return tuple([a + times * b for a, b in zip(one, other)])


class Image:
    """A mirroring, if wanted, then a turn, then a move."""

    def __init__(self, mirror, eighths, v):
        self.mirror, self.eighths, self.v = mirror, eighths, v

    def way(self, corner):
        return turned(mirrored(corner) if self.mirror else corner, self.eighths)

    def corner(self, corner):
        return plus(self.way(corner), self.v)

    def direction(self, d):
        return ((-d if self.mirror else d) + self.eighths) % 8

    def kind(self, kind):
        return tuple(sorted([self.direction(d) for d in kind]))

    def tile(self, tile):
        corners = tuple(sorted([self.corner(corner) for corner in tile_corners(tile)]))
        return [(own, i, j) for own in corners for i, j in WAYS if tile_corners((own, i, j)) == corners][0]

    def heap(self, heap):
        return [self.tile(tile) for tile in heap]

    def floor(self, floor):
        return floor_moved(floor_turned(floor_mirrored(floor) if self.mirror else floor, self.eighths), self.v)

    def block(self, block):
        """A program that does at the image what a block does, from the image of its heading on."""
        sign = -1 if self.mirror else 1
        found = []
        for word_of, *more in block:
            if word_of in ("turn", "ask"):
                more[0] = more[0] * sign % 8
            if word_of in ("ask", "again"):
                more[1:] = [self.block(part) for part in more[1:]]
            found.append((word_of, *more))
        return tuple(found)

    def program(self, block):
        return (turn(self.eighths),) + self.block(block)


def images():
    dice = seeded(271)
    return [Image(at % 2, at % 8, some_corner(dice, (0, 3, HUGE)[at % 3])) for at in range(16)]


class TestImages(unittest.TestCase):
    def test_floors(self):
        for image in images():
            for floor in FLOORS[:4]:
                other = image.floor(floor)
                for corner in floor.near((0, 0), 2):
                    far = image.corner(corner)
                    self.assertTrue(exact.has_corner(other.shift, far))
                    self.assertEqual(other.sides(far), image.kind(floor.sides(corner)))
                    self.assertEqual(sorted(other.tiles_at(far)), sorted(image.heap(floor.tiles_at(corner))))
                    rings = [sorted(map(image.corner, ring)) for ring in floor.around(corner, 3)]
                    self.assertEqual(other.around(far, 3), rings)

    def test_heaps(self):
        dice = seeded(272)
        for turn_number, image in enumerate(images()):
            for floor in FLOORS[:4]:
                tiles = tiles_of(floor, (0, 0), 2)
                heap = some_heap(dice, tiles, 4)
                tile = dice.choice(tiles)
                far, there = image.heap(heap), image.tile(tile)
                self.assertEqual(held(far)[0], held(heap)[0])
                self.assertEqual(heap_piece(far).area(), heap_piece(heap).area())
                told = word(far, there)
                self.assertEqual(told[0], word(heap, tile)[0])
                self.assertTrue(is_word(far, there, told))
                self.assertEqual(share_with(far, there), share_with(heap, tile))
                if told[0] != "open":
                    self.assertEqual(least_lots(far, there), least_lots(heap, tile))
                self.assertTrue(all([image.floor(floor).has_tile(other) for other in far]))
            self.assertEqual(held(image.heap(THREE))[0], "bars")

    def test_shares(self):
        shares = dict(kinds())
        for image in images():
            for kind, share in shares.items():
                self.assertEqual(shares[image.kind(kind)], share)
            # Of a heap that is moved, a corner is moved the other way, too.
            still = Image(image.mirror, image.eighths, ZERO)
            for heap in ([(ZERO, 0, 1)], THREE[:2], [((1, 0, 0, -1), 1, 3), (ZERO, 0, 2)]):
                self.assertEqual(share_of(still.heap(heap)), share_of(heap))

    def test_walks(self):
        for image in images():
            for floor in FLOORS[1:4]:
                other = image.floor(floor)
                for program in PROGRAMS:
                    for corner in floor.near((0, 0), 1):
                        end, heading, gone = walk(floor, corner, program)
                        told = walk(other, image.corner(corner), image.program(program))
                        self.assertEqual(told, (image.corner(end), image.direction(heading), gone))
                        self.assertEqual(trail(other, image.corner(corner), image.program(program)),
                                         [image.corner(part) for part in trail(floor, corner, program)])

    def test_ends(self):
        for image in images()[:5]:
            for program in (PROGRAMS[7], PROGRAMS[10], PROGRAMS[11]):
                there = image.program(program)
                self.assertEqual(ends(there), {
                    (image.way(way), image.direction(heading)): share for (way, heading), share in ends(program).items()})
                self.assertEqual(goings(there), goings(program))
                self.assertEqual(farthest(there)[0], farthest(program)[0])
                self.assertEqual(kinds_led(there), {
                    (image.kind(kind), image.kind(other)): share for (kind, other), share in kinds_led(program).items()})
                self.assertEqual(comes_home(there)[0], comes_home(program)[0])
                self.assertEqual(meeting(there, image.program((GO,))), meeting(program, (GO,)))
                self.assertEqual(alike(there, image.program((ask(0, THERE),) + program))[0],
                                 alike(program, (ask(0, THERE),) + program)[0])

    def test_needless(self):
        for image in images()[:6]:
            program = (ask(0, (ask(0), GO)), turn(1), ask(3, THERE))
            self.assertEqual([path for path in needless(image.program(program)) if path[0] > 0],
                             [(path[0] + 1, *path[1:]) for path in needless(program)])

    def test_asks(self):
        dice = seeded(273)
        for image in images():
            tiles = tiles_of(FLOORS[2], (0, 0), 2)
            heap = some_heap(dice, tiles, 2)
            some = dice.sample(tiles, 4)
            here = asks(heap, some[:3], some[3])
            there = asks(image.heap(heap), image.heap(some[:3]), image.tile(some[3]))
            self.assertEqual(here[0], there[0])
            if here[0] == "asks":
                self.assertEqual(here[1], there[1])
                self.assertTrue(is_plan(image.heap(heap), image.heap(some[:3]), image.tile(some[3]), here[2]))

    def test_absent_tiles(self):
        dice = seeded(274)
        for image in images():
            tiles = tiles_of(FLOORS[1], (0, 0), 2)
            heap = some_heap(dice, tiles, 2)
            absent = [tile for tile, told in possible(heap, (0, 0), 1) if told == "open"][:4]
            told = with_absent(image.heap(heap), image.heap(absent))
            self.assertEqual(told[0], with_absent(heap, absent)[0])
            if told[0] == "tree":
                self.assertTrue(is_tree(image.heap(heap), image.heap(absent), told[1]))

    def test_strangers(self):
        for image in images():
            if max(map(abs, image.v)) >= 10 ** 6:
                continue
            for floor in FLOORS[1:4]:
                other = image.floor(floor)
                for corner in floor.near((0, 0), 2)[:3]:
                    for gone in floor.tiles_at(corner)[:2] + (None,):
                        far = gone and image.tile(gone)
                        here = refuted(lambda tile: tile != gone and floor.has_tile(tile), corner, 2)
                        there = refuted(lambda tile: tile != far and other.has_tile(tile), image.corner(corner), 2)
                        self.assertEqual(here[0], there[0])

    def test_copies(self):
        dice = seeded(275)
        v = some_corner(dice, HUGE)
        for floor in FLOORS[1:4]:
            heap = tiles_of(floor, (0, 0), 2)[:2]
            here = copies(floor, heap, (0, 0), 4)
            self.assertEqual(copies(floor_moved(floor, v), heap, place(v), 4), [plus(w, v) for w in here])
            self.assertEqual(copies(floor_moved(floor, v), heap_moved(heap, v), place(v), 4), here)
        heap = [(ZERO, 0, 1), ((1, 0, 0, 0), 1, 3)]
        if held(heap)[0] == "floor":
            told = reach(heap, 5)
            for eighths in (1, 2, 5):
                image = Image(0, eighths, ZERO)
                other = reach(image.heap(heap), 5)
                self.assertEqual(other[0], told[0])
                if told[0] == "within":
                    self.assertTrue(is_reach_lot(heap, told[2]))

    def test_ribbons(self):
        dice = seeded(276)
        v = some_corner(dice, 30)
        for floor in FLOORS[:4]:
            other = floor_moved(floor, v)
            for tile in tiles_of(floor, (0, 0), 2):
                one, second = ribbons_of(tile)
                far = [(k, n + v[k]) for k, n in (one, second)]
                self.assertEqual(crossing(floor, one, second), tile)
                self.assertEqual(crossing(other, *far), moved([tile], v)[0])

    def test_symmetries(self):
        for floor in [Floor((0, 0)), Floor((Root(1, 0, 3), 0)), Floor((Root(2, -1, 4), Root(0, 1, 4))), FLOORS[3]]:
            for mirror, eighths, v in symmetries(floor):
                image = Image(mirror, eighths, v)
                self.assertEqual(image.floor(floor), floor)
                for corner in floor.near((0, 0), 2):
                    self.assertTrue(floor.has_corner(image.corner(corner)))


class TestGreater(unittest.TestCase):
    def test_moved(self):
        dice = seeded(277)
        for turn_number in range(24):
            floor = FLOORS[turn_number % len(FLOORS)]
            v = some_corner(dice, (4, HUGE)[turn_number % 2])
            self.assertEqual(greater_floor(floor_moved(floor, greater(v))), floor_moved(greater_floor(floor), v))
            self.assertEqual(moved_by(lesser_floor(floor), lesser_floor(floor_moved(floor, v))), greater(v))

    def test_turned_and_mirrored(self):
        for floor in FLOORS:
            for eighths in range(8):
                self.assertEqual(greater_floor(floor_turned(floor, eighths)), floor_turned(greater_floor(floor), eighths))
            self.assertEqual(greater_floor(floor_mirrored(floor)), floor_mirrored(greater_floor(floor)))
            self.assertEqual(led_up(floor_turned(floor, 3), -7), floor_turned(led_up(floor, -7), 3))

    def test_stands_and_seams_of_images(self):
        for image in images():
            image.v = greater(image.v)
            for floor in FLOORS[1:3]:
                other = image.floor(floor)
                for corner in floor.near((0, 0), 2):
                    here, there = stands(floor, corner), stands(other, image.corner(corner))
                    self.assertEqual(here is None, there is None)
                    if here is None:
                        continue
                    self.assertEqual(greater(there), image.corner(corner))
                    for d in greater_floor(floor).sides(here):
                        first, tile = seam(floor, here, d)
                        self.assertEqual(seam(other, there, image.direction(d)), (first, image.tile(tile)))

    def test_lowered_heaps(self):
        dice = seeded(278)
        for turn_number in range(20):
            heap = some_heap(dice, tiles_of(FLOORS[turn_number % 5], (0, 0), 2), 4)
            for many in (1, -1, 3, 40):
                below = lowered(heap_piece(heap), many)
                shift = below.let_point()
                above = led_up(Floor(shift), many)
                self.assertTrue(all([above.has_tile(tile) for tile in heap]))
                self.assertEqual(lowered(below, -many), heap_piece(heap))

    def test_floors_with_a_greater_tile(self):
        # The greater floor has a square: the floor surely has the corners at which those of it stand.
        square = (ZERO, 1, 3)
        below = lowered(lozenge(square), 1)
        for corner in tile_corners(square):
            self.assertTrue(below.within(window().led(star(greater(corner)))))
        # They are the ends of seams, one side and one square long.
        floor = Floor(below.let_point())
        for d in (1, 3):
            self.assertIn(seam(floor, ZERO, d)[0], ("side", "square"))


class TestPapers(unittest.TestCase):
    def test_desks_and_heaps(self):
        dice = seeded(279)
        for turn_number in range(20):
            tiles = tiles_of(FLOORS[turn_number % 5], (0, 0), 3)
            heap = some_heap(dice, tiles, 6)
            desk = Desk()
            for tile in heap:
                desk.tell(tile)
            self.assertTrue(is_held(heap, ("floor", desk.fitting())))
            for tile, told in possible(heap, (0, 0), 1):
                self.assertEqual(desk.word(tile), told)
                self.assertEqual(asks(heap, [], tile)[0], "asks" if told == "sure" else "never")
                if told == "sure" and tile not in heap:
                    with self.assertRaises(Clash) as caught:
                        desk.deny(tile)
                    self.assertTrue(is_tree(heap, [tile], caught.exception.tree))

    def test_desks_and_strangers(self):
        for floor in FLOORS[:5]:
            corner = floor.near((0, 0), 2)[0]
            asked = {}

            def stranger(tile):
                asked[tile] = floor.has_tile(tile)
                return asked[tile]
            told = refuted(stranger, corner, 1)
            desk = Desk()
            for tile in sorted(asked):
                if asked[tile]:
                    desk.tell(tile)
            self.assertTrue(is_held(desk.told(), ("floor", told[1])))
            # What was denied is never there then.
            for tile in sorted(asked):
                self.assertEqual(desk.word(tile), "sure" if asked[tile] else "never")

    def test_parting_tiles_and_desks(self):
        for one, other in zip(FLOORS[:4], FLOORS[1:5]):
            tile = parting_tile(one, other, (0, 0), 12)
            self.assertNotEqual(one.has_tile(tile), other.has_tile(tile))
            # Both floors fit what both have, so that the tile is open.
            both = [near for near in tiles_of(one, (0, 0), 4) if other.has_tile(near)][:40]
            desk = Desk()
            for near in both:
                desk.tell(near)
            self.assertEqual(desk.word(tile), "open")
            self.assertEqual(asks(both, [tile], tile)[1], 1)

    def test_outcomes_are_of_floors(self):
        for program in PROGRAMS[:8]:
            for piece, (way, heading, gone) in outcomes(program):
                floor = Floor(scaled(-1, piece.let_point()))
                self.assertEqual(walk(floor, ZERO, program), (way, heading, gone))

    def test_kinds_are_of_floors(self):
        for kind, share in kinds():
            for piece in kind_lot(kind):
                self.assertEqual(Floor(scaled(-1, piece.let_point())).sides(ZERO), kind)

    def test_bars_of_what_a_stranger_tells(self):
        told = refuted(lambda tile: True, ZERO, 2)
        self.assertEqual(told[0], "bars")
        rows = [bound for tile in told[1] for bound in tile_bounds(tile)]
        self.assertIsNotNone(bars(rows))
        self.assertTrue(Piece(rows).is_empty())
        self.assertTrue(is_held(told[1], ("bars", told[2])))


class TestTexts(unittest.TestCase):
    def test_what_is_written_is_read_back(self):
        for floor in FLOORS:
            for many in (0, 1, -40, 40):
                other = led_up(floor, many)
                self.assertEqual(read_floor(write_floor(other)), other)
        for kind, share in kinds():
            self.assertEqual(read_number(number_text(share)), share)
        for program in PROGRAMS:
            self.assertEqual(read_program(write_program(program)), program)
            for share in ends(program).values():
                self.assertEqual(read_number(number_text(share)), share)
        for floor in FLOORS:
            tiles = tiles_of(floor, (0, 0), 4)[:40]
            self.assertEqual(read_heap(write_heap(tiles)), tuple(tiles))
        self.assertEqual(read_heap(write_heap(heap_moved(THREE, (HUGE, 0, -HUGE, 3)))), heap_moved(THREE, (HUGE, 0, -HUGE, 3)))

    def test_what_is_read_may_be_passed_on(self):
        floor = read_floor("floor 1+2r/5 -r/3")
        self.assertEqual(floor.shift, (Root(1, 2, 5), Root(0, -1, 3)))
        heap = read_heap("tile 0 0 0 0 1 3")
        self.assertEqual(word(heap, heap[0])[0], "sure")
        program = read_program("again 2\n  ask 1\n    go\n  else\n    turn 3")
        self.assertEqual(ends(program), ends(program))
        self.assertEqual(added((read_number("3-r/2"), 0), (0, 0))[0], Root(3, -1, 2))


if __name__ == "__main__":
    unittest.main()
