import copy
import time
import unittest

import exact
import judges
import surds
import walking
from samples import odd_things, odd_tuples
from test_floors import FAR, SHIFTS
from test_heaps import digits
from walking import (
    EMPTY, GO, JUST_400, LONG, ONE_MORE, PROGRAMS, THERE, TOO_LONG, ZERO, again, ask, turn, wandering)

from threetiles.corners import place, star
from threetiles.errors import BadProgram, FloorError, TooMany
from threetiles.floors import Floor, barred
from threetiles.kinds import kinds
from threetiles.lots import window
from threetiles.outcomes import ends, farthest, goings, is_outcomes, kinds_led, outcomes
from threetiles.pieces import Piece
from threetiles.points import square, taken
from threetiles.programs import walk
from threetiles.roots import Root

WHOLE = Root(2, 2, 1)
ALL = (outcomes, ends, goings, farthest, kinds_led)


def summed(numbers):
    total = Root(0, 0, 1)
    for number in numbers:
        total = total + number
    return total


def is_int(thing):
    return type(thing) is int


class TestOutcomes(unittest.TestCase):
    def assert_right(self, program):
        told = outcomes(program)
        self.assertIs(type(told), list)
        for part in told:
            self.assertIs(type(part), tuple)
            piece, outcome = part
            self.assertIsInstance(piece, Piece)
            self.assertIs(type(outcome), tuple)
            way, heading, gone = outcome
            self.assertTrue(all([is_int(number) for number in way + (heading, gone)]))
            self.assertIs(type(way), tuple)
            for polygon, other, answers in walking.told_over(surds.polygon_of(piece), program):
                self.assertEqual(outcome, other)
        pieces = [piece for piece, outcome in told]
        self.assertTrue(walking.is_partition(pieces))
        self.assertEqual(summed([piece.area() for piece in pieces]), WHOLE)
        self.assertEqual({outcome for piece, outcome in told},
                         {outcome for polygon, outcome, answers in walking.told_in_window(program)})
        self.assertIs(is_outcomes(program, told), True)
        return told

    def test_as_told(self):
        many = [len(self.assert_right(program)) for program in PROGRAMS]
        self.assertGreater(max(many), 20)

    def test_20_looks(self):
        begin = time.monotonic()
        for program in LONG:
            told = outcomes(program)
            self.assertIs(is_outcomes(program, told), True)
        self.assertLess(time.monotonic() - begin, 10)
        told = self.assert_right(LONG[0])
        self.assertGreater(len({outcome for piece, outcome in told}), 20)

    def test_one_outcome(self):
        for program, outcome in [((), (ZERO, 0, 0)), ((turn(7), turn(6)), (ZERO, 5, 0)), ((ask(3), ask(7)), (ZERO, 0, 0)),
                                 ((again(60, turn(3)),), (ZERO, 4, 0)), ((again(0, GO),), (ZERO, 0, 0)),
                                 ((ask(2, (turn(3),), (turn(1), turn(2))),), (ZERO, 3, 0))]:
            told = self.assert_right(program)
            self.assertEqual({other for piece, other in told}, {outcome})

    def test_no_two_make_up_one_piece(self):
        # Where the outcome is the same, so many pieces are not needed.
        self.assertEqual(len(outcomes((ask(2, (turn(1),), (turn(1),)),))), 1)
        self.assertEqual(outcomes((ask(3), turn(2))), [(window(), (ZERO, 2, 0))])
        for program in (GO, turn(1), GO), PROGRAMS[10]:
            told = outcomes(program)
            self.assertLess(len(told), len(walking.told_in_window(program)))

    def test_points_of_corners(self):
        for program in PROGRAMS + LONG[:1]:
            told = outcomes(program)
            for shift in SHIFTS[1:]:
                floor = Floor(shift)
                for corner in floor.near((1, 1), 1) + ([FAR] if floor.has_corner(FAR) else []):
                    point = taken(star(corner), shift)
                    owners = [outcome for piece, outcome in told if piece.has(point)]
                    end, heading, gone = walk(floor, corner, program)
                    way = tuple([a - b for a, b in zip(end, corner)])
                    # The pieces leave out lines; no point of these corners lies on such a one.
                    self.assertEqual(owners, [(way, heading, gone)])
                    self.assertEqual(walking.walk_at([surds.surd(part) for part in point], program), owners[0])

    def test_just_400_unlike_answers(self):
        for program, many in [(JUST_400, 400), (ONE_MORE, 401)]:
            answers = {answers for polygon, outcome, answers in walking.told_in_window(program)}
            self.assertEqual(len(answers), many)
        told = outcomes(JUST_400)
        self.assertEqual({outcome for piece, outcome in told},
                         {outcome for polygon, outcome, answers in walking.told_in_window(JUST_400)})
        self.assertIs(is_outcomes(JUST_400, told), True)
        self.assertEqual(summed(ends(JUST_400).values()), 1)

    def test_wrong(self):
        for judge in ALL:
            for thing in walking.bad_programs():
                with self.assertRaises(BadProgram) as caught:
                    judge(thing)
                self.assertIsInstance(caught.exception, FloorError)
            for program in (ONE_MORE, TOO_LONG, TOO_LONG + (turn(1),), (ask(0),) + TOO_LONG):
                with self.assertRaises(TooMany) as caught:
                    judge(program)
                self.assertEqual(caught.exception.limit, 400)
                self.assertIs(type(caught.exception.limit), int)
            # What is no program is told first.
            with self.assertRaises(BadProgram):
                judge(TOO_LONG + (turn(8),))

    def test_nothing_changes(self):
        for program in (PROGRAMS[7], PROGRAMS[10]):
            kept = copy.deepcopy(program)
            for judge in ALL:
                told = judge(program)
                other = judge(program)
                self.assertEqual(told, other)
                if isinstance(told, (list, dict)):
                    self.assertIsNot(told, other)
                    told.clear()
                    self.assertEqual(judge(program), other)
            self.assertEqual(program, kept)


class TestIsOutcomes(unittest.TestCase):
    def test_other_right_ones(self):
        for program in PROGRAMS[:12]:
            told = outcomes(program)
            self.assertIs(is_outcomes(program, told[::-1]), True)
            finer = []
            for piece, outcome in told:
                middle = (piece.bounds[0] - piece.bounds[4]).over(2)
                finer.extend([(part, outcome) for part in piece.parted((0, middle))])
            self.assertIs(is_outcomes(program, finer), True)
        # The answers part here, the outcomes do not.
        self.assertIs(is_outcomes((), [(window(), (ZERO, 0, 0))]), True)
        self.assertIs(is_outcomes((ask(2),), [(window(), (ZERO, 0, 0))]), True)
        self.assertIs(is_outcomes((ask(0, THERE), turn(1)), [(window(), (ZERO, 1, 0))]), False)
        self.assertIs(is_outcomes((turn(4),), [(part, (ZERO, 4, 0)) for part in window().parted((1, 0))]), True)

    def test_spoiled_pieces(self):
        for program in [(), (GO,), (turn(3),), PROGRAMS[7], PROGRAMS[10]]:
            told = outcomes(program)
            for lot in walking.bad_lot_of([piece for piece, outcome in told]):
                if isinstance(lot, list):
                    last = told[-1][1]
                    paper = [(piece, outcome) for piece, (_, outcome) in zip(lot, told + [(None, last)] * 3)]
                    self.assertIs(is_outcomes(program, paper), False)
                self.assertIs(is_outcomes(program, lot), False)

    def test_pieces_with_common_points(self):
        # The areas sum to that of the window, but half of it is left out.
        for d in range(8):
            one, other = window().parted((d, 0))
            self.assertIs(is_outcomes((), [(one, (ZERO, 0, 0)), (other, (ZERO, 0, 0))]), True)
            for half in (one, other):
                self.assertIs(is_outcomes((), [(half, (ZERO, 0, 0)), (half, (ZERO, 0, 0))]), False)
        quarters = [part for half in window().parted((0, 0)) for part in half.parted((2, 0))]
        for at in range(4):
            paper = [(piece, (ZERO, 0, 0)) for piece in quarters[:at] + quarters[at + 1:] + [quarters[at - 1]]]
            self.assertIs(is_outcomes((), paper), False)

    def test_wrong_programs(self):
        for thing in walking.bad_programs():
            with self.assertRaises(BadProgram):
                is_outcomes(thing, [])

    def test_spoiled_outcomes(self):
        for program in [(), (GO,), PROGRAMS[7]]:
            told = outcomes(program)
            for at in (0, len(told) // 2, len(told) - 1):
                piece, outcome = told[at]
                for spoiled in judges.spoiled(outcome):
                    if spoiled == outcome and type(spoiled) is type(outcome) and exactly(spoiled, outcome):
                        continue
                    self.assertIs(is_outcomes(program, told[:at] + [(piece, spoiled)] + told[at + 1:]), False, spoiled)
                for part in ([piece, outcome], (piece,), (outcome, piece), (piece, outcome, 0), None, piece, outcome,
                             (piece, list(outcome)), (piece, None), (None, outcome), (piece.bounds, outcome), ()):
                    self.assertIs(is_outcomes(program, told[:at] + [part] + told[at + 1:]), False)

    def test_spoiled_lists(self):
        for program in [(), (GO,), PROGRAMS[7]]:
            told = outcomes(program)
            for thing in [tuple(told), told[1:], told[:-1], told + [told[0]], told + [None], [told], told + [(EMPTY, told[0][1])],
                          {0: told}, dict(told_by_index(told))]:
                self.assertIs(is_outcomes(program, thing), False)
        for thing in odd_things() + odd_tuples() + [0, window(), [window()], [(window(), ())], [window(), (ZERO, 0, 0)]]:
            self.assertIs(is_outcomes((), thing), False)

    def test_papers_of_others(self):
        papers = [outcomes(program) for program in PROGRAMS]
        seen = {True: 0, False: 0}
        for program, own in zip(PROGRAMS, papers):
            for paper in papers[::3]:
                right = all([{outcome} == {other for _, other, _ in walking.told_over(surds.polygon_of(piece), program)}
                             for piece, outcome in paper])
                self.assertIs(is_outcomes(program, paper), right)
                seen[right] += 1
        self.assertGreater(min(seen.values()), 5)

    def test_nothing_changes(self):
        told = outcomes(PROGRAMS[7])
        kept = list(told)
        self.assertIs(is_outcomes(PROGRAMS[7], told), True)
        self.assertEqual(told, kept)


def exactly(one, other):
    """Whether two nested tuples have equal parts of the very same kinds."""
    if type(one) is not type(other):
        return False
    if isinstance(one, tuple):
        return len(one) == len(other) and all([exactly(a, b) for a, b in zip(one, other)])
    return one == other


def told_by_index(told):
    return [(at, part) for at, part in enumerate(told)]


class TestEnds(unittest.TestCase):
    def test_as_told(self):
        for program in PROGRAMS + LONG[:1]:
            told = ends(program)
            self.assertIs(type(told), dict)
            expected = walking.shares_over(program, lambda outcome: outcome[:2])
            self.assertEqual(set(told), set(expected))
            for key, share in told.items():
                self.assertIs(type(key), tuple)
                self.assertIs(type(share), Root)
                self.assertEqual(surds.surd(share), expected[key])
                self.assertEqual(share.sign(), 1)
            self.assertEqual(summed(told.values()), 1)

    def test_simple(self):
        self.assertEqual(ends(()), {(ZERO, 0): 1})
        self.assertEqual(ends((turn(7), turn(2))), {(ZERO, 1): 1})
        # A side leaves in a direction from those corners whose kind has it.
        share = summed([part for kind, part in kinds() if 3 in kind])
        self.assertEqual(ends((turn(3), GO)), {((0, 0, 0, 1), 3): share, (ZERO, 3): 1 - share})

    def test_counted_in_a_floor(self):
        floor = Floor(SHIFTS[2])
        corners = floor.near((0, 0), 12)
        for program in (PROGRAMS[7], PROGRAMS[9]):
            counts = {}
            for corner in corners:
                end, heading, gone = walk(floor, corner, program)
                key = (tuple([a - b for a, b in zip(end, corner)]), heading)
                counts[key] = counts.get(key, 0) + 1
            told = ends(program)
            self.assertLessEqual(set(counts), set(told))
            for key, share in told.items():
                part = (share.top + share.root * 2 ** 0.5) / share.bottom
                self.assertLess(abs(counts.get(key, 0) / len(corners) - part), 0.04)


class TestGoings(unittest.TestCase):
    def test_as_told(self):
        seen = set()
        for program in PROGRAMS + LONG[:1]:
            told = goings(program)
            numbers = [outcome[2] for polygon, outcome, answers in walking.told_in_window(program)]
            self.assertEqual(told, (min(numbers), max(numbers)))
            self.assertIs(type(told), tuple)
            seen.add(told)
        self.assertGreater(len(seen), 6)

    def test_simple(self):
        self.assertEqual(goings(()), (0, 0))
        self.assertEqual(goings((again(60, turn(1)), ask(0))), (0, 0))
        self.assertEqual(goings((GO,)), (0, 1))
        self.assertEqual(goings((ask(0, THERE),)), (0, 2))
        # Straight ahead there are never more than two sides, one behind the other.
        self.assertEqual(goings((again(20, GO),)), (0, 2))
        # There is no corner from which no side leaves.
        seek = (again(7, ask(0, (), (turn(1),))), GO)
        self.assertEqual(goings(seek), (1, 1))


class TestFarthest(unittest.TestCase):
    def test_as_told(self):
        for program in PROGRAMS + LONG[:1]:
            told = farthest(program)
            self.assertIs(type(told), tuple)
            number, shift = told
            self.assertIs(type(number), Root)
            squares = [sum_of(outcome[0]) for polygon, outcome, answers in walking.told_in_window(program)]
            self.assertEqual(surds.surd(number), max(squares))
            self.assertIsNone(barred(shift))
            self.assertTrue(all([type(part) is Root for part in shift]))
            self.assertLessEqual(digits(shift), 400)
            self.assertTrue(exact.has_corner(shift, ZERO))
            end = walking.walk_in(shift, ZERO, program)[0]
            self.assertEqual(square(place(end)), number)

    def test_simple(self):
        self.assertEqual(farthest(())[0], 0)
        self.assertEqual(farthest((turn(1), turn(3)))[0], 0)
        self.assertEqual(farthest((GO,))[0], 1)
        self.assertEqual(farthest((again(20, GO),))[0], 4)
        self.assertEqual(farthest((ask(0, THERE),))[0], 0)
        # Who cannot go at first turns about, and may go then.
        self.assertEqual(farthest(THERE)[0], 1)
        # The farthest corner of a square is found across it, that of the narrow lozenge at its end.
        self.assertEqual(farthest(wandering([0, 2]))[0], 2)
        self.assertEqual(farthest(wandering([0, 1]))[0], Root(2, 1, 1))


def sum_of(way):
    point = [surds.surd(part) for part in place(way)]
    return point[0] * point[0] + point[1] * point[1]


class TestKindsLed(unittest.TestCase):
    def test_empty_program(self):
        self.assertEqual(kinds_led(()), {(kind, kind): share for kind, share in kinds()})
        self.assertEqual(kinds_led((ask(0), turn(3), again(2))), kinds_led(()))

    def test_sum_to_1(self):
        for program in PROGRAMS + LONG[:1]:
            told = kinds_led(program)
            self.assertIs(type(told), dict)
            self.assertEqual(summed(told.values()), 1)
            firsts = {}
            for (kind, other), share in told.items():
                self.assertIs(type(share), Root)
                self.assertEqual(share.sign(), 1)
                firsts[kind] = firsts.get(kind, 0) + share
            # The first corners are of each kind as often as corners are.
            self.assertEqual(firsts, dict(kinds()))

    def test_as_told(self):
        for program in (PROGRAMS[1], PROGRAMS[7], PROGRAMS[11]):
            self.assertEqual({key: surds.surd(share) for key, share in kinds_led(program).items()}, kinds_over(program))

    def test_corners_of_floors(self):
        for program in PROGRAMS[8:] + LONG[:1]:
            told = kinds_led(program)
            for shift in SHIFTS[1:4]:
                floor = Floor(shift)
                for corner in floor.near((0, 0), 4):
                    end = walk(floor, corner, program)[0]
                    self.assertIn((floor.sides(corner), floor.sides(end)), told)

    def test_in_time(self):
        begin = time.monotonic()
        for program in LONG:
            ends(program)
            goings(program)
            farthest(program)
            kinds_led(program)
        self.assertLess(time.monotonic() - begin, 15)


def kinds_over(program):
    """The shares of pairs of kinds, by walks that look all around at first and at last."""
    areas = {}
    for polygon, outcome, answers in walking.told_in_window(program):
        for part, kind in kinds_at(polygon, ZERO):
            for some, other in kinds_at(part, outcome[0]):
                areas[kind, other] = areas.get((kind, other), surds.Surd(0)) + surds.area(some)
    return {key: areas[key] / surds.Surd(2, 2) for key in areas}


def kinds_at(polygon, way):
    """A list of (polygon, kind), the kind of the corner a way farther."""
    found = [(polygon, ())]
    for d in range(8):
        fresh = []
        for some, kind in found:
            inside, outside = walking.split(some, walking.window_rows(exact.moved(way, d)))
            fresh.extend([(inside, kind + (d,))] if inside else [])
            fresh.extend([(part, kind) for part in outside])
        found = fresh
    return found


if __name__ == "__main__":
    unittest.main()
