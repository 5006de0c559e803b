import copy
import unittest

from samples import HUGE, odd_things, odd_tuples, seeded
from test_pieces import (
    R, SQUARE, TINY, TRIANGLE, VECTORS, WINDOW, bad_bounds, bad_rows, reached, rows_with_r, small_rows)

from threetiles.bars import bars, is_bars, is_press, press
from threetiles.errors import BadBounds, EmptyPiece, FloorError
from threetiles.pieces import Piece
from threetiles.roots import Root

BARRED = [(0, 5), (4, 1), (2, R), (0, -1), (6, 9)]
NARROW = [(0, 3), (2, 2), (4, 1), (6, 1)]


def holds_as_bars(row, thing):
    """Whether bars are right, by the words of the document."""
    indexes = [index for index, weight in thing]
    return (type(thing) is tuple and len(thing) in (2, 3) and indexes == sorted(set(indexes))
            and all([type(part) is tuple and type(weight) is int and weight >= 1
                     for part in thing for index, weight in [part]])
            and sum([VECTORS[row[index][0]][0] * weight for index, weight in thing]) == 0
            and sum([VECTORS[row[index][0]][1] * weight for index, weight in thing]) == 0
            and (Root(0, 0, 1) + sum([row[index][1] * weight for index, weight in thing])).sign() <= 0)


def holds_as_press(row, bound, thing):
    weight, rest = thing
    indexes = [index for index, times in rest]
    total = Root(0, 0, 1) + sum([row[index][1] * times for index, times in rest])
    return (type(thing) is tuple and type(rest) is tuple and len(rest) in (1, 2) and indexes == sorted(set(indexes))
            and type(weight) is int and weight >= 1 and all([times >= 1 for index, times in rest])
            and [sum([VECTORS[row[index][0]][k] * times for index, times in rest]) for k in (0, 1)]
            == [VECTORS[bound[0]][k] * weight for k in (0, 1)]
            and (total - bound[1] * weight).sign() <= 0)


class TestBars(unittest.TestCase):
    def test_example(self):
        self.assertEqual(
            (bars([(0, 0), (4, 0)]), bars([(0, 1), (4, 0)]), Piece([(0, 1), (2, 1), (5, 1)]).area() == Root(9, 0, 2)),
            (((0, 1), (1, 1)), None, True))

    def test_some_exactly_if_there_are_no_points(self):
        dice = seeded(71)
        seen = {2: 0, 3: 0, None: 0}
        for turn in range(900):
            row = small_rows(dice, dice.randint(0, 9)) if turn % 2 else rows_with_r(dice, dice.randint(0, 9), 6)
            kept = copy.deepcopy(row)
            told = bars(row)
            self.assertIs(told is None, not Piece(row).is_empty())
            self.assertEqual(row, kept)
            self.assertEqual(bars(tuple(row)), told)
            if told is None:
                seen[None] += 1
            else:
                self.assertTrue(holds_as_bars(row, told), (row, told))
                self.assertIs(is_bars(row, told), True)
                seen[len(told)] += 1
        self.assertTrue(min(seen.values()) > 25, seen)

    def test_each_set_of_directions(self):
        for weights in [{0: 1, 4: 1}, {1: 1, 5: 1}, {2: 1, 6: 1}, {3: 1, 7: 1}, {0: 1, 3: 1, 6: 1}, {1: 1, 4: 2, 7: 1},
                        {0: 1, 2: 1, 5: 1}, {1: 1, 3: 1, 6: 2}, {2: 1, 4: 1, 7: 1}, {0: 2, 3: 1, 5: 1},
                        {1: 1, 4: 1, 6: 1}, {2: 2, 5: 1, 7: 1}]:
            for order in (sorted(weights), sorted(weights, reverse=True)):
                row = [(d, 0) for d in order]
                self.assertEqual(bars(row), tuple([(at, weights[d]) for at, d in enumerate(order)]))
                self.assertTrue(is_bars(row, bars(row)))
                self.assertIsNone(bars([(d, TINY) for d in order]))
                self.assertIsNone(bars([(d, 0) for d in order[:-1]] + [(order[-1], TINY)]))

    def test_none_for_all_points(self):
        self.assertIsNone(bars([]))
        self.assertIsNone(bars(()))
        self.assertIsNone(bars(WINDOW))

    def test_of_400(self):
        row = [(d % 4, HUGE) for d in range(398)] + [(5, 7), (1, -7)]
        self.assertEqual(bars(row), ((398, 1), (399, 1)))
        self.assertIsNone(bars(row[:399]))

    def test_wrong(self):
        deeds = [bars, lambda row: is_bars(row, None), lambda row: press(row, None),
                 lambda row: is_press(row, None, None), lambda row: press(row, (0, 1))]
        for deed in deeds:
            for thing in bad_rows():
                with self.assertRaises(BadBounds) as caught:
                    deed(thing)
                self.assertEqual(caught.exception.index, -1)
            for thing in bad_bounds():
                for at in (0, 1, 4):
                    row = [(0, 0), (4, 0), (2, R), (6, 1)]
                    row.insert(at, thing)
                    with self.assertRaises(BadBounds) as caught:
                        deed(row + [None])
                    self.assertEqual(caught.exception.index, at)


class TestIsBars(unittest.TestCase):
    def test_right_ones(self):
        self.assertIs(is_bars(BARRED, ((1, 1), (3, 1))), True)
        self.assertIs(is_bars(BARRED, ((1, HUGE), (3, HUGE))), True)
        self.assertIs(is_bars(BARRED, ((0, 1), (1, 4), (3, 3))), False)
        self.assertIs(is_bars(BARRED, ((0, 1), (1, 5), (3, 4))), False)
        self.assertIs(is_bars([(0, 5), (4, 1), (0, -3)], ((0, 1), (1, 5), (2, 4))), True)
        self.assertIs(is_bars([(0, 5), (4, 1), (0, -3)], ((0, 1), (1, 3), (2, 2))), False)
        self.assertIs(is_bars([(1, R), (4, -R), (7, 1)], ((0, 1), (1, 2), (2, 1))), True)
        self.assertIs(is_bars([(1, R), (4, -R), (7, 1)], ((0, 3), (1, 6), (2, 3))), True)
        self.assertIs(is_bars([(1, R), (4, -R), (7, R)], ((0, 3), (1, 6), (2, 3))), True)
        self.assertIs(is_bars([(1, R), (4, TINY - R), (7, R)], ((0, 3), (1, 6), (2, 3))), False)

    def test_spoiled_ones(self):
        row = [(0, 0), (4, 0), (0, -1), (3, 0), (6, 0)]
        for right in [((0, 1), (1, 1)), ((1, 2), (2, 2)), ((0, 1), (3, 1), (4, 1)), ((0, 1), (1, 2), (2, 1))]:
            self.assertIs(is_bars(row, right), True)
        spoiled = [
            ((1, 1), (0, 1)), ((0, 1), (0, 1)), ((0, 1), (5, 1)), ((0, 1), (-4, 1)), ((-5, 1), (1, 1)),
            ((0, 1), (1, 2)), ((0, 0), (1, 0)), ((0, -1), (1, -1)), ((0, True), (1, 1)), ((False, 1), (1, 1)),
            ((0, 1), (True, 1)), [(0, 1), (1, 1)], ([0, 1], (1, 1)), ((0, 1), [1, 1]), ((0, 1),), (),
            ((0, 1), (1, 1), (2, 1)), ((0, 1), (1, 1), (3, 1), (4, 1)), ((0, 1, 1), (1, 1)), ((0,), (1, 1)),
            ((0, 1), (1, "1")), ((0, Root(1, 0, 1)), (1, 1)), ((0, 1), (1, 1), ()), ((0, 1), (1, None)),
            ((0, 1), (1, 1), None), ((0, 1), (3, 1)), ((0, 1), (3, 1), (4, 2)), ((0, 1.0), (1, 1.0)),
            ((0.0, 1), (1, 1)), ((0, 1), (1, 1j)), ((0, {1}), (1, 1)), (0, 1), ((0, 1), (1, 2), (2, 1), (3, 1)),
            ((0, 1), (4, 1), (3, 1)), ((0, 1), (HUGE, 1)), ((-1, 1), (0, 1), (3, 1)),
        ]
        for thing in spoiled + odd_things() + odd_tuples() + [1.5, {1, 2}, 2j, frozenset(), Piece([]), R]:
            self.assertIs(is_bars(row, thing), False, thing)
        self.assertIs(is_bars([], ((0, 1), (1, 1))), False)

    def test_four_are_too_many(self):
        row = [(0, 0), (2, 0), (4, 0), (6, 0)]
        self.assertIs(is_bars(row, ((0, 1), (1, 1), (2, 1), (3, 1))), False)
        self.assertIs(is_bars(row, ((0, 1), (2, 1))), True)

    def test_numbers_count(self):
        self.assertIs(is_bars([(0, 1), (4, -1)], ((0, 1), (1, 1))), True)
        self.assertIs(is_bars([(0, 1), (4, -1 + TINY)], ((0, 1), (1, 1))), False)
        self.assertIs(is_bars([(0, 1), (4, -1 - TINY)], ((0, 1), (1, 1))), True)


class TestPress(unittest.TestCase):
    def test_some_exactly_if_all_are_let(self):
        dice = seeded(72)
        seen = {1: 0, 2: 0, None: 0}
        for turn in range(300):
            row = small_rows(dice, dice.randint(0, 6)) if turn % 2 else rows_with_r(dice, dice.randint(0, 6), 9)
            piece = Piece(row)
            if piece.is_empty():
                continue
            kept = copy.deepcopy(row)
            for d in range(8):
                least = piece.bounds[d]
                numbers = [-HUGE, 0, HUGE] if least is None else [least, least - TINY, least + TINY, HUGE, -HUGE]
                for number in numbers:
                    told = press(row, (d, number))
                    lets = least is not None and not Root(0, 0, 1).less(least - number)
                    self.assertIs(told is not None, lets)
                    self.assertIs(piece.within(Piece([(d, number)])), lets)
                    if told is None:
                        seen[None] += 1
                    else:
                        self.assertTrue(holds_as_press(row, (d, number), told), (row, d, number, told))
                        self.assertIs(is_press(row, (d, number), told), True)
                        seen[len(told[1])] += 1
            self.assertEqual(row, kept)
        self.assertTrue(min(seen.values()) > 50, seen)

    def test_ordinary(self):
        self.assertEqual(press([(0, 1)], (0, 1)), (1, ((0, 1),)))
        self.assertEqual(press([(3, 1), (0, 1)], (0, 2)), (1, ((1, 1),)))
        self.assertIsNone(press([(0, 1)], (0, 1 - TINY)))
        self.assertIsNone(press([(0, 1)], (4, HUGE)))
        self.assertIsNone(press([], (4, HUGE)))
        self.assertEqual(press([(1, 1), (7, 2)], (0, Root(3, 0, 2))), (2, ((0, 1), (1, 1))))
        self.assertIsNone(press([(1, 1), (7, 2)], (0, Root(3, 0, 2) - TINY)))
        self.assertEqual(press([(3, 1), (0, 1)], (1, 3)), (1, ((0, 1), (1, 2))))
        self.assertEqual(press(TRIANGLE, (3, 3)), (1, ((1, 2), (2, 1))))

    def test_empty(self):
        for row in ([(0, 0), (4, 0)], BARRED, [(0, 0), (3, 0), (6, 0)]):
            for bound in [(0, 1), (2, HUGE), (0, -HUGE)]:
                with self.assertRaises(EmptyPiece):
                    press(row, bound)

    def test_wrong_bound(self):
        for thing in bad_bounds():
            for row in (NARROW, BARRED, []):
                for deed in (lambda: press(row, thing), lambda: is_press(row, thing, (1, ((0, 1),)))):
                    with self.assertRaises(BadBounds) as caught:
                        deed()
                    self.assertEqual(caught.exception.index, -2)
                    self.assertIsInstance(caught.exception, FloorError)


class TestIsPress(unittest.TestCase):
    def test_right_ones(self):
        self.assertIs(is_press([(0, 1)], (0, 1), (1, ((0, 1),))), True)
        self.assertIs(is_press([(0, 1)], (0, 1), (7, ((0, 7),))), True)
        self.assertIs(is_press([(0, 1)], (0, 1 - TINY), (7, ((0, 7),))), False)
        self.assertIs(is_press([(0, 1), (0, 3)], (0, 2), (2, ((0, 1), (1, 1)))), True)
        self.assertIs(is_press([(0, 1), (0, 3)], (0, 2 - TINY), (2, ((0, 1), (1, 1)))), False)
        self.assertIs(is_press([(1, 1), (7, R)], (0, 2), (2, ((0, 1), (1, 1)))), True)
        self.assertIs(is_press([(1, 1), (7, R)], (0, 2), (HUGE * 2, ((0, HUGE), (1, HUGE)))), True)
        self.assertIs(is_press([(1, 1), (7, R)], (0, Root(1, 1, 2)), (2, ((0, 1), (1, 1)))), True)
        self.assertIs(is_press([(1, 1), (7, R)], (0, Root(1, 1, 2) - TINY), (2, ((0, 1), (1, 1)))), False)

    def test_rows_without_points_are_judged_too(self):
        self.assertIs(is_press(BARRED, (0, 0), (1, ((3, 1),))), True)
        self.assertIs(is_press(BARRED, (0, 0), (1, ((0, 1),))), False)

    def test_spoiled_ones(self):
        row = [(1, 0), (7, 0), (0, 0), (2, 0), (2, -1)]
        bound = (0, 0)
        for right in [(1, ((2, 1),)), (2, ((0, 1), (1, 1))), (1, ((1, 1), (3, 1))), (1, ((1, 1), (4, 1)))]:
            self.assertIs(is_press(row, bound, right), True)
            self.assertIs(is_press(row, (4, 0), right), False)
            self.assertIs(is_press(row, (1, 0), right), False)
        spoiled = [
            (2, ((1, 1), (0, 1))), (2, ((2, 1), (2, 1))), (1, ((0, 1), (1, 1))), (2, ((0, 1), (1, 2))),
            (2, ((0, 2), (1, 2))), (0, ((2, 0),)), (-1, ((2, -1),)), (True, ((2, 1),)), (1, ((2, True),)),
            (1, ((5, 1),)), (1, ((-3, 1),)), (1, ()), (1, ((2, 1), (2, 1))), [1, ((2, 1),)], (1, [(2, 1)]),
            (1, ([2, 1],)), (1, ((2, 1),), 1), (1,), (((2, 1),), 1), (3, ((0, 1), (1, 1), (2, 1))), (1, (2, 1)),
            (Root(1, 0, 1), ((2, 1),)), (1, ((2, Root(1, 0, 1)),)), (1, ((2, 1, 1),)), (1, ((2,),)), (1, None),
            (None, ((2, 1),)), ("1", ((2, 1),)), (1, ((2, "1"),)), (1.0, ((2, 1),)), (1, ((2, 1.0),)), (1, {2}),
            (2, ((2, 1),)), (2, ((-3, 2),)), (1, ((2, 2),)), (1, ((0, 1),)), (1, ((3, 1),)), (0, ()), (0, ((0, 0), (1, 0))),
        ]
        for thing in spoiled + odd_things() + odd_tuples() + [1.5, {1}, Piece([])]:
            self.assertIs(is_press(row, bound, thing), False, thing)
        self.assertIs(is_press([], bound, (1, ((0, 1),))), False)
        self.assertIs(is_press(row, (2, -1), (1, ((4, 1),))), True)
        self.assertIs(is_press(row, (2, -1), (1, ((-1, 1),))), False)


class TestSoundness(unittest.TestCase):
    def test_points_bear_papers_out(self):
        # A point that all bounds of a row let is let by what a press tells, too.
        for row in (WINDOW, SQUARE, TRIANGLE):
            point = Piece(row).let_point()
            for d in range(8):
                told = press(row, (d, 9))
                self.assertTrue(reached(d, point).less(9))
                self.assertTrue(is_press(row, (d, 9), told))


if __name__ == "__main__":
    unittest.main()
