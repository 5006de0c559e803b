import copy
import time
import unittest

import exact
import judges
import surds
import walking
from samples import odd_things, odd_tuples
from test_floors import SHIFTS
from test_heaps import digits
from walking import ALL_AROUND, GO, LONG, ONE_MORE, PROGRAMS, THERE, TOO_LONG, ZERO, again, ask, turn, wandering

from threetiles.errors import BadProgram, FloorError, TooMany
from threetiles.floors import Floor
from threetiles.lots import covered, left_of, window
from threetiles.outcomes import ends
from threetiles.pieces import Piece
from threetiles.programs import walk
from threetiles.roots import Root
from threetiles.walkers import alike, comes_home, is_alike, meeting, needless

# Programs that are alike though they differ.
ALIKE = [
    ((), (turn(3), turn(5))), ((), (ask(0, THERE),)), ((), (again(0, GO),)), ((), (again(4, turn(2)),)),
    ((GO,), (ask(0, (GO,)),)), ((turn(4), GO), (turn(1), turn(3), ask(0, (GO,), (ask(2),)))),
    ((GO, GO), (again(2, GO),)), ((again(3, GO),), (again(2, GO),)), ((ask(5, (turn(1),), (turn(1),)),), (turn(1),)),
    ((ask(3, (GO,), (turn(4),)),), (ask(3, (GO, ask(4, THERE[1:2] + (turn(4),))), (turn(2), turn(2))),)),
    ((again(8, ask(0, THERE), turn(1)),), ()),
]
# Programs that are not.
APART = [
    ((GO,), ()), ((turn(1),), ()), ((GO, GO, turn(4), GO), (GO,)), ((THERE), ()), ((ask(2, (turn(1),)),), ()),
    ((again(2, GO),), (GO,)), ((wandering([0, 1, 2])), wandering([2, 7, 2])), ((turn(1), GO, turn(7)), (turn(1), GO)),
    ((ask(0, THERE), turn(1)), ()), (ALL_AROUND, ()), ((ask(7, (GO,)),), (ask(1, (GO,)),)),
]


def is_home_lot(program, lot):
    if not walking.is_partition(lot):
        return False
    return all([outcome[0] == ZERO for piece in lot
                for polygon, outcome, answers in walking.told_over(surds.polygon_of(piece), program)])


def are_alike_on(piece, one, other):
    told = {outcome[:2] for program in (one, other)
            for polygon, outcome, answers in walking.told_over(surds.polygon_of(piece), program)}
    return len(told) == 1


def is_paper(one, other, thing):
    """Whether a thing is right, by the words of the document."""
    if judges.is_paper(thing, "apart", 2):
        if not judges.is_let(thing[1]) or not exact.has_corner(thing[1], ZERO):
            return False
        return walking.walk_in(thing[1], ZERO, one)[:2] != walking.walk_in(thing[1], ZERO, other)[:2]
    if not judges.is_paper(thing, "alike", 2) or type(thing[1]) is not list:
        return False
    return walking.is_partition(thing[1]) and all([are_alike_on(piece, one, other) for piece in thing[1]])


class TestAlike(unittest.TestCase):
    def assert_right(self, one, other, word):
        told = alike(one, other)
        self.assertIs(type(told), tuple)
        self.assertEqual((len(told), told[0]), (2, word))
        self.assertTrue(is_paper(one, other, told))
        self.assertIs(is_alike(one, other, told), True)
        if word == "alike":
            self.assertIs(type(told[1]), list)
            self.assertTrue(all([isinstance(piece, Piece) for piece in told[1]]))
        else:
            self.assertTrue(all([type(number) is Root for number in told[1]]))
            self.assertLessEqual(digits(told[1]), 400)
        return told

    def test_examples(self):
        there = (("go",), ("turn", 4), ("go",), ("turn", 4))
        self.assertEqual((alike((("ask", 0, there, ()),), ())[0], alike((("go",),), ())[0]), ("alike", "apart"))

    def test_alike(self):
        for one, other in ALIKE:
            self.assert_right(one, other, "alike")
            self.assert_right(other, one, "alike")

    def test_apart(self):
        for one, other in APART:
            told = self.assert_right(one, other, "apart")
            floor = Floor(told[1])
            self.assertNotEqual(walk(floor, ZERO, one)[:2], walk(floor, ZERO, other)[:2])
            self.assert_right(other, one, "apart")

    def test_each_with_each(self):
        papers = {word: 0 for word in ("alike", "apart")}
        some = PROGRAMS[:12]
        for one in some:
            for other in some:
                told = alike(one, other)
                self.assertTrue(is_paper(one, other, told), (one, other))
                self.assertIs(is_alike(one, other, told), True)
                papers[told[0]] += 1
        self.assertGreater(min(papers.values()), 12)

    def test_itself(self):
        for program in PROGRAMS + LONG[:1]:
            self.assert_right(program, program, "alike")

    def test_lots_may_be_passed_on(self):
        # A lot has at most 400 pieces, however the walks' answers part the window.
        for program in PROGRAMS[7:12] + LONG + [walking.JUST_400]:
            lot = alike(program, program)[1]
            self.assertLessEqual(len(lot), 400)
            self.assertTrue(covered(window(), lot))
            self.assertEqual(left_of(window(), lot), [])
            self.assertFalse(covered(window(), lot[1:]))

    def test_steps_do_not_count(self):
        # One goes there and back, the other stays: the numbers gone are unlike.
        self.assert_right((ask(0, THERE * 3),), (ask(1, (turn(1), *THERE, turn(7))),), "alike")

    def test_walks_in_floors(self):
        for one, other in ALIKE:
            for shift in SHIFTS:
                floor = Floor(shift)
                for corner in floor.near((2, 0), 1):
                    self.assertEqual(walk(floor, corner, one)[:2], walk(floor, corner, other)[:2])

    def test_20_looks(self):
        begin = time.monotonic()
        seen = []
        turned = (turn(3),) + LONG[0]
        for one, other in [(LONG[0], LONG[0]), (LONG[0], turned), (LONG[1], LONG[1]), (LONG[2], LONG[2])]:
            told = alike(one, other)
            seen.append(told[0])
            self.assertIs(is_alike(one, other, told), True)
        self.assertEqual(seen, ["alike", "apart", "alike", "alike"])
        self.assertLess(time.monotonic() - begin, 10)
        self.assert_right(LONG[0], turned, "apart")

    def test_wrong(self):
        for thing in walking.bad_programs():
            for pair in ((thing, None), ((), thing), (thing, TOO_LONG), (TOO_LONG, thing)):
                for judge in (alike, meeting):
                    with self.assertRaises(BadProgram) as caught:
                        judge(*pair)
                    self.assertIsInstance(caught.exception, FloorError)

    def test_too_many(self):
        # With many more pairs than each of both has answers.
        for pair in [(TOO_LONG, ()), ((), TOO_LONG), (ONE_MORE, (turn(1),)), (LONG[0], LONG[1]), (LONG[1], LONG[0]),
                     (LONG[1], LONG[2]), (LONG[2], (turn(1),) + LONG[1]), (TOO_LONG, TOO_LONG)]:
            for judge in (alike, meeting):
                with self.assertRaises(TooMany) as caught:
                    judge(*pair)
                self.assertEqual(caught.exception.limit, 400)
        # None of these comes to more than 400 alone.
        for program in LONG:
            self.assertEqual(sum_of(ends(program).values()), 1)

    def test_400_pairs(self):
        # What does not look adds no answers, and what looks where the other one has looked neither.
        for pair in [(walking.JUST_400, ()), ((turn(2),), walking.JUST_400), (walking.JUST_400, walking.JUST_400)]:
            self.assertIn(alike(*pair)[0], ("alike", "apart"))
            self.assertIs(meeting(*pair).sign() >= 0, True)

    def test_nothing_changes(self):
        one, other = ALIKE[9]
        kept = copy.deepcopy((one, other))
        told = alike(one, other)
        second = alike(one, other)
        self.assertEqual(told, second)
        self.assertIsNot(told[1], second[1])
        told[1].clear()
        self.assertEqual(alike(one, other), second)
        self.assertEqual(alike(*APART[2]), alike(*APART[2]))
        self.assertEqual((one, other), kept)


class TestIsAlike(unittest.TestCase):
    def test_other_right_ones(self):
        self.assertIs(is_alike((), (), ("alike", [window()])), True)
        self.assertIs(is_alike((), (ask(0, THERE),), ("alike", [window()])), True)
        self.assertIs(is_alike((turn(1),), (turn(9 % 8),), ("alike", list(window().parted((3, 0))))), True)
        self.assertIs(is_alike((GO,), (GO,), ("alike", [window()])), False)
        for one, other in ALIKE:
            lot = alike(one, other)[1]
            self.assertIs(is_alike(one, other, ("alike", lot[::-1])), True)
            finer = [part for piece in lot for part in piece.parted((2, (piece.bounds[2] - piece.bounds[6]).over(2)))]
            self.assertIs(is_alike(one, other, ("alike", finer)), True)
            self.assertIs(is_alike(other, one, ("alike", finer)), True)
        # Shifts of integers will do.
        self.assertIs(is_alike((GO,), (), ("apart", (0, 0))), True)
        self.assertIs(is_alike((GO,), (), ("apart", (Root(0, 0, 1), 0))), True)

    def test_spoiled_lots(self):
        for one, other in (ALIKE[0], ALIKE[4], ALIKE[9]):
            for lot in walking.bad_lot_of(alike(one, other)[1]):
                self.assertIs(is_alike(one, other, ("alike", lot)), False)
                self.assertIs(is_alike(one, other, lot), False)

    def test_pieces_with_common_points(self):
        for d in range(8):
            one, other = window().parted((d, 0))
            self.assertIs(is_alike((), (turn(0),), ("alike", [one, other])), True)
            for half in (one, other):
                self.assertIs(is_alike((), (turn(0),), ("alike", [half, half])), False)

    def test_wrong_programs(self):
        for thing in walking.bad_programs():
            for pair in ((thing, ()), ((), thing)):
                with self.assertRaises(BadProgram):
                    is_alike(*pair, ("alike", [window()]))

    def test_spoiled_shifts(self):
        for one, other in APART:
            told = alike(one, other)
            for thing in judges.spoiled(told):
                self.assertIs(is_alike(one, other, thing), is_paper(one, other, thing), thing)
        half = Root(1, 0, 2)
        # Barred ones, one without the corner, and one from which both end alike.
        for shift in [(half, 0), (0, half), (Root(0, 1, 2), 0), (5, 0), (True, 0), (0, False), [0, 0], None]:
            self.assertIs(is_alike((GO,), (), ("apart", shift)), False)
        seen = {True: 0, False: 0}
        for x in range(-5, 6):
            for y in range(-5, 6):
                shift = (Root(x, 0, 7), Root(y, 0, 7))
                right = is_alike((GO,), (), ("apart", shift))
                self.assertIs(right, exact.has_corner(shift, ZERO) and exact.has_corner(shift, (1, 0, 0, 0)))
                seen[right] += 1
        self.assertGreater(min(seen.values()), 20)

    def test_odd_things(self):
        for thing in odd_things() + odd_tuples() + [0, window(), [window()], ("alike",), ("apart",), ("alike", window()),
                                                    ("alike", (window(),)), ("alike", [window()], 0), ["alike", [window()]],
                                                    ("Alike", [window()]), ("apart", [window()]), ("alike", (0, 0))]:
            self.assertIs(is_alike((), (), thing), False)
            self.assertIs(is_alike((GO,), (), thing), False)

    def test_papers_of_others(self):
        pairs = ALIKE[:6] + APART[:6]
        papers = [alike(*pair) for pair in pairs]
        seen = {True: 0, False: 0}
        for one, other in pairs:
            for paper in papers:
                right = is_paper(one, other, paper)
                self.assertIs(is_alike(one, other, paper), right)
                seen[right] += 1
        self.assertGreater(min(seen.values()), 20)


class TestNeedless(unittest.TestCase):
    def without(self, block, path):
        """A block without the statement of a path, by the words of the document."""
        index, *rest = path
        if not rest:
            return tuple([part for at, part in enumerate(block) if at != index])
        statement = list(block[index])
        at = 2 + rest.pop(0) if statement[0] == "ask" else 2
        statement[at] = self.without(statement[at], rest)
        return tuple([tuple(statement) if at == index else part for at, part in enumerate(block)])

    def all_paths(self, block):
        found = []
        for index, (word, *more) in enumerate(block):
            found.append((index,))
            if word == "ask":
                for which in (0, 1):
                    found.extend([(index, which, *path) for path in self.all_paths(more[1 + which])])
            if word == "again":
                found.extend([(index, *path) for path in self.all_paths(more[1])])
        return found

    def test_simple(self):
        self.assertEqual(needless(()), [])
        self.assertEqual(needless((GO,)), [])
        self.assertEqual(needless((turn(1),)), [])
        self.assertEqual(needless((turn(0),)), [(0,)])
        self.assertEqual(needless((turn(3), turn(5))), [])
        self.assertEqual(needless((GO, ask(0), turn(2), again(7))), [(1,), (3,)])
        self.assertEqual(needless((again(0, GO, turn(1)),)), [(0,), (0, 0), (0, 1)])
        self.assertEqual(needless((again(8, turn(1)),)), [(0,), (0, 0)])
        self.assertEqual(needless((again(3, turn(4), turn(0)),)), [(0, 1)])
        # A third go straight ahead never leads farther.
        self.assertEqual(needless((GO, GO)), [])
        self.assertEqual(needless((GO, GO, GO)), [(0,), (1,), (2,)])

    def test_in_asks(self):
        self.assertEqual(needless((ask(0, (turn(0),), (turn(1),)),)), [(0, 0, 0)])
        self.assertEqual(needless((ask(0, (turn(1),), (turn(0), turn(8 % 8))),)), [(0, 1, 0), (0, 1, 1)])
        # Where a side is known to leave, it needs not be asked for.
        self.assertEqual(needless((ask(0, (ask(0), GO)), turn(1))), [(0, 0, 0)])
        self.assertEqual(needless((ask(0, (), (GO,)), turn(1))), [(0,), (0, 1, 0)])
        self.assertEqual(needless((ask(3, (turn(1),), (ask(3, (GO,)),)),)), [(0, 1, 0), (0, 1, 0, 0, 0)])

    def test_several_levels_in(self):
        program = (again(2, ask(1, (again(2, turn(1), ask(0, (turn(0),), (turn(2),))),), (turn(0),))),)
        self.assertEqual(needless(program), [(0, 0, 0, 0, 1, 0, 0), (0, 0, 1, 0)])

    def test_as_told(self):
        none = 0
        for program in PROGRAMS[:14]:
            told = needless(program)
            self.assertIs(type(told), list)
            paths = self.all_paths(program)
            expected = []
            for path in paths:
                other = self.without(program, path)
                if all([are_alike_on(piece, program, other) for piece in self.pieces_of(program, other)]):
                    expected.append(path)
            self.assertEqual(told, expected)
            self.assertEqual(told, sorted(told))
            none += told == []
        self.assertGreater(none, 3)

    def pieces_of(self, one, other):
        told = alike(one, other)
        return told[1] if told[0] == "alike" else [window()]

    def test_wrong(self):
        for thing in walking.bad_programs():
            with self.assertRaises(BadProgram):
                needless(thing)

    def test_12_statements(self):
        begin = time.monotonic()
        program = (again(3, *wandering([3, 1, 6])), ask(2, (GO,), (turn(1),)), GO, turn(5))
        self.assertEqual(len(self.all_paths(program)), 12)
        needless(program)
        needless(LONG[2][:12])
        needless((again(2, *wandering([6, 1, 0, 7, 1])), turn(1)))
        self.assertLess(time.monotonic() - begin, 10)

    def test_nothing_changes(self):
        program = (ask(0, (turn(0),), (turn(0),)), turn(0))
        kept = copy.deepcopy(program)
        told = needless(program)
        other = needless(program)
        self.assertEqual(told, other)
        self.assertIsNot(told, other)
        told.clear()
        self.assertEqual(needless(program), other)
        self.assertEqual(program, kept)


class TestComesHome(unittest.TestCase):
    def test_home(self):
        for program in [(), (turn(3),), (ask(0, THERE),), (ask(0, THERE), turn(1)), (again(8, ask(0, THERE), turn(1)),),
                        (ask(2, (turn(2), *THERE)), ask(5, (turn(5),))), ALL_AROUND, (again(0, GO),)]:
            told = comes_home(program)
            self.assertIs(type(told), tuple)
            self.assertEqual((len(told), told[0]), (2, "home"))
            self.assertIs(type(told[1]), list)
            self.assertTrue(all([isinstance(piece, Piece) for piece in told[1]]))
            self.assertTrue(is_home_lot(program, told[1]))

    def test_away(self):
        for program in [(GO,), THERE, wandering([0, 2]), PROGRAMS[7], PROGRAMS[8], PROGRAMS[10], LONG[0],
                        (ask(0, THERE), again(7, ask(1, (), (turn(1),))), GO)]:
            told = comes_home(program)
            self.assertIs(type(told), tuple)
            self.assertEqual((len(told), told[0]), (2, "away"))
            self.assertTrue(judges.is_let(told[1]))
            self.assertTrue(all([type(number) is Root for number in told[1]]))
            self.assertLessEqual(digits(told[1]), 400)
            self.assertTrue(exact.has_corner(told[1], ZERO))
            self.assertNotEqual(walking.walk_in(told[1], ZERO, program)[0], ZERO)

    def test_around_a_square(self):
        # Home along the sides of a square, if it goes each time, but not from everywhere.
        square = (again(4, GO, turn(2)),)
        self.assertEqual(comes_home(square)[0], "away")
        seek = ask(0, (GO, turn(2), ask(0, (GO, turn(2), ask(0, (GO, turn(2), GO)))),))
        self.assertEqual(comes_home((seek,))[0], "away")

    def test_wrong(self):
        for thing in walking.bad_programs():
            with self.assertRaises(BadProgram):
                comes_home(thing)
        for program in (ONE_MORE, TOO_LONG):
            with self.assertRaises(TooMany) as caught:
                comes_home(program)
            self.assertEqual(caught.exception.limit, 400)

    def test_nothing_changes(self):
        for program in ((ask(0, THERE),), PROGRAMS[7]):
            told = comes_home(program)
            other = comes_home(program)
            self.assertEqual(told, other)
            self.assertIsNot(told[1], other[1])
            if told[0] == "home":
                told[1].clear()
            self.assertEqual(comes_home(program), other)


def sum_of(numbers):
    total = Root(0, 0, 1)
    for number in numbers:
        total = total + number
    return total


class TestMeeting(unittest.TestCase):
    def test_itself(self):
        for program in PROGRAMS + LONG[:1]:
            self.assertEqual(meeting(program, program), 1)
            # Whatever the headings are.
            self.assertEqual(meeting(program, program + (turn(3),)), 1)

    def test_simple(self):
        for d in range(8):
            share = ends((turn(d), GO))[ZERO, d]
            self.assertEqual(meeting((turn(d), GO), ()), share)
            self.assertEqual(meeting((), (turn(d), GO)), share)
        never = meeting((again(7, ask(0, (), (turn(1),))), GO), ())
        self.assertEqual(never, 0)
        self.assertIs(type(never), Root)

    def test_as_told(self):
        for one, other in APART + [(PROGRAMS[7], PROGRAMS[10]), (PROGRAMS[11], PROGRAMS[9])]:
            area = surds.Surd(0)
            for polygon, outcome, answers in walking.told_in_window(one):
                for part, second, answers in walking.told_over(polygon, other):
                    if outcome[0] == second[0]:
                        area = area + surds.area(part)
            told = meeting(one, other)
            self.assertIs(type(told), Root)
            self.assertEqual(surds.surd(told), area / surds.Surd(2, 2))
            self.assertEqual(meeting(other, one), told)

    def test_counted_in_a_floor(self):
        floor = Floor(SHIFTS[2])
        corners = floor.near((0, 0), 12)
        one, other = (GO, turn(1), GO), (turn(1), GO, turn(7), GO)
        many = sum([walk(floor, corner, one)[0] == walk(floor, corner, other)[0] for corner in corners])
        share = meeting(one, other)
        self.assertLess(abs(many / len(corners) - (share.top + share.root * 2 ** 0.5) / share.bottom), 0.04)

    def test_in_time(self):
        begin = time.monotonic()
        self.assertEqual(meeting(LONG[1], LONG[1]), 1)
        turned = (turn(3),) + LONG[0]
        self.assertEqual(meeting(LONG[0], turned), meeting(turned, LONG[0]))
        self.assertLess(time.monotonic() - begin, 10)


if __name__ == "__main__":
    unittest.main()
