import copy
import time
import unittest

import exact
import walking
from samples import HUGE, odd_things, seeded
from test_corners import bad_corners
from test_floors import FAR, SHIFTS
from test_ribbons import bad_floors
from walking import ALL_AROUND, GO, LONG, PROGRAMS, THERE, TOO_LONG, ZERO, again, ask, deep, turn, wandering

from threetiles.corners import stepped
from threetiles.errors import BadCorner, BadFloor, BadProgram, FloorError, NoCorner
from threetiles.floors import Floor
from threetiles.programs import is_program, trail, walk
from threetiles.roots import Root

STAR = Floor((0, 0))


def corners_of(floor, point=(0, 0), size=2):
    return floor.near(point, size)


class TestIsProgram(unittest.TestCase):
    def test_programs(self):
        for program in PROGRAMS + LONG + [TOO_LONG, THERE, (again(0),), (ask(7, (), (again(60),)),)]:
            self.assertIs(is_program(program), True)

    def test_60_and_61_statements(self):
        for many in range(57, 64):
            right = many <= 60
            self.assertIs(is_program((GO,) * many), right)
            self.assertIs(is_program((again(60, *[turn(1)] * (many - 1)),)), right)
            self.assertIs(is_program((again(0, *[GO] * (many - 1)),)), right)
            half = (GO,) * (many // 2)
            self.assertIs(is_program((ask(0, half, (GO,) * (many - len(half) - 1)),)), right)
            self.assertIs(is_program((ask(0, half), again(1, *[GO] * (many - len(half) - 2)))), right)
            third = (GO,) * (many // 3)
            self.assertIs(is_program(third + (again(1, ask(1, (), third)),) + (GO,) * (many - 2 * len(third) - 2)), right)

    def test_6_and_7_deep(self):
        for many in range(1, 12):
            self.assertIs(is_program(deep(many)), many <= 6)
            self.assertIs(is_program((GO, again(1, *deep(many)))), many <= 5)
            self.assertIs(is_program((ask(1, deep(many)), GO)), many <= 5)
        # The block of the sixth may be there, but nothing is in it.
        block = ()
        for many in range(1, 9):
            block = (again(1, *block),)
            self.assertIs(is_program(block), many <= 6)
            block = (ask(2, (), block[0][2]),)
            self.assertIs(is_program(block), many <= 6)

    def test_limits_of_numbers(self):
        for n in range(-3, 70):
            self.assertIs(is_program((("turn", n),)), 0 <= n <= 7)
            self.assertIs(is_program((("ask", n, (), ()),)), 0 <= n <= 7)
            self.assertIs(is_program((("again", n, ()),)), 0 <= n <= 60)

    def test_no_programs(self):
        for thing in walking.bad_programs():
            self.assertIs(is_program(thing), False)

    def test_in_time(self):
        begin = time.monotonic()
        is_program((GO,) * 10 ** 6)
        is_program((again(1, *[GO] * 59),) * 1000)
        is_program(walking.bad_programs()[-1])
        self.assertLess(time.monotonic() - begin, 2)


class TestWalk(unittest.TestCase):
    def test_no_statement(self):
        for shift in SHIFTS:
            floor = Floor(shift)
            for corner in corners_of(floor):
                self.assertEqual(walk(floor, corner, ()), (corner, 0, 0))
                self.assertEqual(trail(floor, corner, ()), [corner])

    def test_a_star(self):
        # From this corner of this floor sides leave in all directions.
        for d in range(8):
            self.assertEqual(walk(STAR, ZERO, (turn(d), GO)), (stepped(ZERO, d, 1), d, 1))
            self.assertEqual(trail(STAR, ZERO, (turn(d), GO)), [ZERO, stepped(ZERO, d, 1)])
            self.assertEqual(walk(STAR, ZERO, (ask(d, (turn(3),), (turn(1),)),)), (ZERO, 3, 0))
            self.assertEqual(walk(STAR, ZERO, (turn(d),) + THERE), (ZERO, d, 2))
            self.assertEqual(trail(STAR, ZERO, (turn(d),) + THERE), [ZERO, stepped(ZERO, d, 1), ZERO])

    def test_go_where_no_side_leaves(self):
        floor = Floor(SHIFTS[1])
        seen = 0
        for corner in corners_of(floor, (0, 0), 4):
            for d in range(8):
                told = walk(floor, corner, (turn(d), GO))
                if d in floor.sides(corner):
                    self.assertEqual(told, (stepped(corner, d, 1), d, 1))
                else:
                    self.assertEqual(told, (corner, d, 0))
                    self.assertEqual(walk(floor, corner, (turn(d),) + (GO,) * 9), (corner, d, 0))
                    self.assertEqual(trail(floor, corner, (turn(d),) + (GO,) * 9), [corner])
                    seen += 1
        self.assertGreater(seen, 50)

    def test_headings_beyond_7(self):
        self.assertEqual(walk(STAR, ZERO, (turn(7), turn(7))), (ZERO, 6, 0))
        self.assertEqual(walk(STAR, ZERO, (again(60, turn(7)),)), (ZERO, 4, 0))
        self.assertEqual(walk(STAR, ZERO, (turn(5), turn(3), GO)), ((1, 0, 0, 0), 0, 1))
        self.assertEqual(walk(STAR, ZERO, (turn(6), ask(3, (GO,)))), ((0, 0, -1, 0), 6, 1))
        # Behind it heading + n is 8, so that it is the direction 0 that is asked for.
        floor = Floor(SHIFTS[1])
        for corner in corners_of(floor, (0, 0), 4):
            for d in range(8):
                told = walk(floor, corner, (turn(d), ask(8 - d if d else 0, (turn(1),), (turn(2),))))
                self.assertEqual(told, (corner, (d + (1 if 0 in floor.sides(corner) else 2)) % 8, 0))

    def test_again(self):
        for block in ((GO,), (turn(1),), (), (GO, turn(3)), (ask(1, (GO,), (turn(1),)),)):
            for corner in corners_of(STAR):
                self.assertEqual(walk(STAR, corner, (again(0, *block),)), (corner, 0, 0))
                self.assertEqual(trail(STAR, corner, (again(0, *block), turn(1))), [corner])
                self.assertEqual(walk(STAR, corner, (again(1, *block),)), walk(STAR, corner, block))
                self.assertEqual(walk(STAR, corner, (again(7, *block),)), walk(STAR, corner, block * 7))
                self.assertEqual(trail(STAR, corner, (again(7, *block),)), trail(STAR, corner, block * 7))
                self.assertEqual(walk(STAR, corner, (again(60, *block),)),
                                 walk(STAR, corner, (again(2, again(30, *block)),)))
        self.assertEqual(walk(STAR, ZERO, (again(60, turn(1)), again(3, again(3, turn(1))))), (ZERO, 5, 0))
        # What comes behind an again is done behind all of its rounds.
        self.assertEqual(walk(STAR, ZERO, (again(2, again(2, turn(1)), turn(2)), GO)), ((1, 0, 0, 0), 0, 1))

    def test_empty_blocks(self):
        self.assertEqual(walk(STAR, ZERO, (ask(0), ask(1, (), (turn(1),)), again(60), again(0))), (ZERO, 0, 0))
        self.assertEqual(walk(STAR, ZERO, (ask(3, (turn(1),), ()), turn(1))), (ZERO, 2, 0))

    def test_as_told(self):
        seen = set()
        for shift in SHIFTS:
            floor = Floor(shift)
            for program in PROGRAMS + LONG:
                for corner in corners_of(floor, (1, 0), 1):
                    told = walk(floor, corner, program)
                    self.assertIs(type(told), tuple)
                    self.assertEqual(told, walking.walk_in(shift, corner, program))
                    self.assert_trail(floor, corner, program, told)
                    seen.add(told[2])
        self.assertLessEqual({0, 1, 2, 3, 12, 16}, seen)

    def assert_trail(self, floor, corner, program, told):
        way = trail(floor, corner, program)
        self.assertIs(type(way), list)
        self.assertEqual(len(way), told[2] + 1)
        self.assertEqual((way[0], way[-1]), (corner, told[0]))
        for one, other in zip(way, way[1:]):
            self.assertIn(other, [exact.moved(one, d) for d in floor.sides(one)])

    def test_numbers_of_many_digits(self):
        point = (Root(3 * HUGE, 1, 7), Root(HUGE, -HUGE, 3))
        seen = set()
        for shift in SHIFTS[1:3] + SHIFTS[5:]:
            floor = Floor(shift)
            for corner in floor.near(point, 1) + [FAR]:
                if not floor.has_corner(corner):
                    continue
                for program in PROGRAMS[5:] + LONG[:1]:
                    told = walk(floor, corner, program)
                    self.assertEqual(told, walking.walk_in(shift, corner, program))
                    self.assert_trail(floor, corner, program, told)
                    seen.add(told[1:])
        self.assertGreater(len(seen), 20)

    def test_the_floor_moved_moves_the_walk(self):
        dice = seeded(201)
        corner = corners_of(STAR)[3]
        for program in PROGRAMS:
            v = tuple([dice.randint(-HUGE, HUGE) for _ in range(4)])
            x, y = exact.star_of(v)
            floor = Floor(tuple([as_root(part) for part in (x, y)]))
            far = tuple([a + b for a, b in zip(corner, v)])
            end, heading, gone = walk(STAR, corner, program)
            self.assertEqual(walk(floor, far, program), (tuple([a + b for a, b in zip(end, v)]), heading, gone))

    def test_400_statements(self):
        begin = time.monotonic()
        floor = Floor(SHIFTS[2])
        corner = corners_of(floor)[0]
        block = (GO, turn(3), ask(1, (turn(1),), (turn(2),)), GO, ask(5, (GO,), (turn(7),)))
        for program in ((again(57, *block),), (again(19, again(3, *block)),), (again(7, *[GO] * 55),)):
            self.assertEqual(walk(floor, corner, program), walking.walk_in(floor.shift, corner, program))
            self.assertEqual(len(trail(floor, corner, program)), walk(floor, corner, program)[2] + 1)
        self.assertLess(time.monotonic() - begin, 5)

    def test_around(self):
        # Looking all around tells how many sides leave.
        for shift in SHIFTS:
            floor = Floor(shift)
            for corner in corners_of(floor):
                told = walk(floor, corner, tuple([ask(n, (turn(1), turn(7))) for n in range(8)]) + (GO,))
                self.assertEqual(told[2], int(0 in floor.sides(corner)))
                # Each turn changes what is asked for, and so does the second reckoning.
                self.assertEqual(walk(floor, corner, ALL_AROUND), walking.walk_in(shift, corner, ALL_AROUND))


def as_root(pair):
    a, b = pair
    bottom = a.denominator * b.denominator
    return Root(int(a * bottom), int(b * bottom), bottom)


class TestWrong(unittest.TestCase):
    def test_floors_first(self):
        for judge in (walk, trail):
            for thing in bad_floors():
                with self.assertRaises(BadFloor) as caught:
                    judge(thing, None, None)
                self.assertIs(caught.exception.floor, thing)
                self.assertIsInstance(caught.exception, FloorError)

    def test_corners_then(self):
        for judge in (walk, trail):
            for thing in bad_corners():
                with self.assertRaises(BadCorner) as caught:
                    judge(STAR, thing, None)
                self.assertIs(caught.exception.corner, thing)
            for corner in ((5, 5, 5, 5), (HUGE, 0, 0, 0), (2, 0, 0, 0)):
                for program in (None, (), (GO,)):
                    with self.assertRaises(NoCorner) as caught:
                        judge(STAR, corner, program)
                    self.assertIs(caught.exception.corner, corner)

    def test_programs_last(self):
        for judge in (walk, trail):
            for thing in walking.bad_programs():
                with self.assertRaises(BadProgram):
                    judge(STAR, ZERO, thing)

    def test_nothing_changes(self):
        for program in PROGRAMS:
            kept = copy.deepcopy(program)
            floor = Floor(SHIFTS[2])
            corner = corners_of(floor)[1]
            told = trail(floor, corner, program)
            again_told = trail(floor, corner, program)
            self.assertEqual(told, again_told)
            self.assertIsNot(told, again_told)
            told.clear()
            self.assertEqual(trail(floor, corner, program), again_told)
            self.assertEqual(walk(floor, corner, program), walk(floor, corner, program))
            self.assertEqual(program, kept)
            self.assertEqual(floor, Floor(SHIFTS[2]))

    def test_odd_things_are_none(self):
        for thing in odd_things():
            self.assertIs(is_program(thing), False)
            self.assertIs(is_program((thing,)), False)
        self.assertIs(is_program(wandering([1, 8])), False)


if __name__ == "__main__":
    unittest.main()
