import copy
import time
import unittest
from itertools import combinations, permutations

from samples import odd_things, odd_tuples, seeded
from surds import VECTORS
from test_ribbons import bad_ribbons

from threetiles.errors import BadRibbons, BadShift, FloorError
from threetiles.floors import Floor, barred
from threetiles.pieces import Piece
from threetiles.ribbons import crossing, far_along, side_bound, side_of
from threetiles.roots import Root
from threetiles.slides import is_slides, slides

R = Root(0, 1, 1)
H = Root(0, 1, 2)
HALF = Root(1, 0, 2)
ROW = [(0, 0), (1, 0), (2, 0), (3, 0), (0, 1), (1, -1)]


def orders_of(floor, ribbons):
    """For each index of a ribbon the indexes of those that cross it, forth, as far_along tells."""
    orders = []
    for ribbon in ribbons:
        others = [index for index, other in enumerate(ribbons) if other[0] != ribbon[0]]
        tiles = {index: crossing(floor, ribbon, ribbons[index]) for index in others}
        orders.append(sorted(others, key=lambda index: far_along(floor, ribbon, tiles[others[0]], tiles[index])))
    return orders


def unlike_triples(one, other, ribbons):
    """The triples of indexes of ribbons that stand otherwise in two floors."""
    found = []
    for a, b, c in combinations(range(len(ribbons)), 3):
        three = (ribbons[a], ribbons[b], ribbons[c])
        if len({k for k, number in three}) == 3:
            if side_of(Floor(one), *three) != side_of(Floor(other), *three):
                found.append((a, b, c))
    return found


def is_right(one, other, ribbons, thing):
    """Judges slides, by the words of the document."""
    if type(thing) is not list:
        return False
    for part in thing:
        if type(part) is not tuple or len(part) != 3 or not all([type(index) is int for index in part]):
            return False
    if sorted(thing) != unlike_triples(one, other, ribbons):
        return False
    orders = orders_of(Floor(one), ribbons)
    for triple in thing:
        for index in triple:
            left, right = [orders[index].index(part) for part in triple if part != index]
            if abs(left - right) != 1:
                return False
        for index in triple:
            left, right = [orders[index].index(part) for part in triple if part != index]
            orders[index][left], orders[index][right] = orders[index][right], orders[index][left]
    return orders == orders_of(Floor(other), ribbons)


def meeting(one, other):
    """The point in which the lines of two bounds meet."""
    (d, number), (e, more) = one, other
    (ax, ay), (bx, by) = VECTORS[d], VECTORS[e]
    area = ax * by - ay * bx
    return ((number * by - more * ay).over(area), (more * ax - number * bx).over(area))


def some_row(dice, many, most, ways=(0, 1, 2, 3)):
    found = []
    while len(found) < many:
        ribbon = (dice.choice(ways), dice.randint(-most, most))
        if ribbon not in found:
            found.append(ribbon)
    return found


def some_shift(dice, most):
    while True:
        shift = tuple([Root(dice.randint(-most * 7, most * 7), dice.randint(-2, 2), dice.choice([5, 7, 9])) for _ in "xy"])
        if barred(shift) is None and all([not number.less(-20) and not (20 - number).sign() < 0 for number in shift]):
            return shift


def bad_shifts():
    """What is no shift that no direction bars."""
    return odd_things() + odd_tuples() + [
        0, R, [0, 0], (0,), (0, 0, 0), (True, 0), (0, "0"), (HALF, 0), (0, HALF), (HALF, HALF), (H, 0), (0, H),
        (H + HALF, 1), (1, H - HALF), (Root(1, 0, 3), Root(2, 0, 3) + H), Floor((0, 0)), Piece([]),
    ]


class TestSlides(unittest.TestCase):
    def assert_right(self, one, other, ribbons):
        told = slides(one, other, ribbons)
        self.assertTrue(is_right(one, other, ribbons, told), (one, other, ribbons, told))
        self.assertIs(is_slides(one, other, ribbons, told), True)
        return told

    def test_far_and_near(self):
        dice = seeded(161)
        lengths = []
        for turn in range(60):
            ribbons = some_row(dice, dice.randint(3, 10), (2, 4, 20)[turn % 3])
            one = some_shift(dice, 2)
            if turn % 2:
                other = some_shift(dice, 2)
            else:
                other = (one[0] + Root(1, 0, 7), one[1] - Root(1, 1, 11))
            if barred(other) is None:
                told = self.assert_right(one, other, ribbons)
                self.assertEqual(slides(one, other, tuple(ribbons)), told)
                lengths.append(len(told))
        self.assertIn(0, lengths)
        self.assertIn(1, lengths)
        self.assertGreater(max(lengths), 15)

    def test_to_itself(self):
        dice = seeded(162)
        for _ in range(5):
            shift = some_shift(dice, 3)
            for ribbons in (some_row(dice, 3, 2), some_row(dice, 10, 2)):
                self.assertEqual(slides(shift, shift, ribbons), [])
                self.assertIs(is_slides(shift, shift, ribbons, []), True)
                self.assertIs(is_slides(shift, shift, ribbons, ()), False)
                self.assertIs(is_slides(shift, shift, ribbons, [(0, 1, 2)]), False)

    def test_one_turn(self):
        three = [(0, 4), (1, -3), (2, 2)]
        d, number = side_bound(*three)
        vx, vy = VECTORS[d]
        # A point on the line of the bound, and from there as far to either side.
        on = (number.over(vx * vx + vy * vy) * vx - 5 * vy, number.over(vx * vx + vy * vy) * vy + 5 * vx)
        for off in (Root(1, 0, 10 ** 19), Root(3, 0, 7)):
            low = (on[0] - off * vx, on[1] - off * vy)
            high = (on[0] + off * vx, on[1] + off * vy)
            for one, other in [(low, high), (high, low)]:
                self.assertEqual(self.assert_right(one, other, three), [(0, 1, 2)])
                self.assertEqual(self.assert_right(one, other, [(0, 5), *three]), self.assert_right(one, other, ((0, 5), *three)))
                self.assertEqual(is_slides(one, other, three, []), False)
                self.assertEqual(is_slides(one, other, three, [(0, 1, 2)] * 2), False)
                self.assertEqual(is_slides(one, other, three, [(0, 1, 2)] * 3), False)
            self.assertEqual(self.assert_right(low, (low[0] - vx, low[1] - vy), three), [])

    def test_one_direction_does_not_turn(self):
        dice = seeded(163)
        for _ in range(10):
            one, other = some_shift(dice, 5), some_shift(dice, 5)
            for ways in ((0,), (3,), (0, 1), (1, 3)):
                ribbons = some_row(dice, 6, 9, ways)
                self.assertEqual(slides(one, other, ribbons), [])
                self.assertIs(is_slides(one, other, ribbons, []), True)
            told = self.assert_right(one, other, some_row(dice, 8, 3, (0, 1, 3)))
            self.assertEqual(len(set(told)), len(told))

    def test_many_at_one_time(self):
        # From a shift to the one across from a middle in which many triples meet at once, some of them in fours.
        dice = seeded(164)
        middles = [(0, 0), (HALF, HALF), (H + HALF, H), (H, 0), (HALF, 0), (H, H)]
        done = 0
        while done < 60:
            middle = dice.choice(middles)
            off = (Root(dice.randint(-9, 9), dice.randint(-1, 1), 7), Root(dice.randint(-9, 9), dice.randint(-1, 1), 9))
            off = (off, (off[0], off[0]), (off[0], 0), (0, off[1]), (off[1], -off[1]))[done % 5]
            one = (middle[0] + off[0], middle[1] + off[1])
            other = (middle[0] - off[0], middle[1] - off[1])
            if barred(one) is None and barred(other) is None:
                self.assert_right(one, other, some_row(dice, dice.randint(5, 10), 1))
                done += 1

    def test_four_that_meet_in_one_point(self):
        # These four ribbons all turn over at one time; not each order of the four triples can be turned over.
        dice = seeded(168)
        orders = {True: 0, False: 0}
        for turn in range(40):
            four = [(k, dice.randint(-4, 4)) for k in range(4)]
            middle = meeting(side_bound(four[0], four[1], four[2]), side_bound(four[0], four[1], four[3]))
            off = (Root(dice.randint(-9, 9), 0, 7), Root(dice.randint(-9, 9), 0, 11))
            one = (middle[0] + off[0], middle[1] + off[1])
            other = (middle[0] - off[0], middle[1] - off[1])
            if barred(one) is not None or barred(other) is not None:
                continue
            dice.shuffle(four)
            told = self.assert_right(one, other, four)
            self.assertEqual(sorted(told), [(0, 1, 2), (0, 1, 3), (0, 2, 3), (1, 2, 3)])
            right = [list(order) for order in permutations(told) if is_slides(one, other, four, list(order))]
            self.assertEqual(len(right), 2)
            self.assertIn(told, right)
            orders[sorted(told) in right] += 1
            self.assert_right(one, other, four + [(0, 5), (1, 5), (2, -5), (3, -5)])
        self.assertGreater(min(orders.values()), 0)

    def test_ends_of_what_callers_pass(self):
        ends = (Root(-20, 0, 1) + Root(1, 0, 10 ** 20), Root(20, 0, 1) - Root(1, 0, 10 ** 20 + 2))
        for ribbons in ([(0, -20), (1, 20), (2, 20), (3, -20)], [(k, n) for n in (-20, 20) for k in range(4)] + [(0, 0), (1, 0)]):
            self.assert_right(ends, (ends[1], ends[0]), ribbons)
            self.assert_right((0, 0), ends, ribbons)
        # A small number, told by great ones.
        small = Root(-1, 1, 1)
        for _ in range(55):
            small = small * Root(-1, 1, 1)
        self.assert_right((small, 1 - small), (Root(1, 0, 3), 2), ROW)

    def test_ten_in_time(self):
        dice = seeded(165)
        begin = time.monotonic()
        longest = 0
        for _ in range(6):
            ribbons = some_row(dice, 10, 3)
            one, other = some_shift(dice, 2), some_shift(dice, 2)
            told = slides(one, other, ribbons)
            self.assertIs(is_slides(one, other, ribbons, told), True)
            longest = max(longest, len(told))
        self.assertLess(time.monotonic() - begin, 10)
        self.assertGreater(longest, 10)

    def test_wrong(self):
        for deed in (slides, lambda one, other, ribbons: is_slides(one, other, ribbons, [])):
            for thing in bad_shifts():
                for other, ribbons in [((0, 0), ROW), (thing, ROW), (None, None), ((0, 0), None)]:
                    with self.assertRaises(BadShift) as caught:
                        deed(thing, other, ribbons)
                    self.assertEqual(caught.exception.index, 0)
                    self.assertIsInstance(caught.exception, FloorError)
                for ribbons in (ROW, None, [(0, 0)]):
                    with self.assertRaises(BadShift) as caught:
                        deed((0, 0), thing, ribbons)
                    self.assertEqual(caught.exception.index, 1)
            rows = [thing for thing in odd_things() if not isinstance(thing, list)] + [0, R, "abc", Floor((0, 0))]
            eleven = [(k, n) for n in range(3) for k in range(4)][:11]
            rows += [[], (), [(0, 0)], [(0, 0), (1, 0)], ((0, 0), (1, 0)), [None, None], eleven, tuple(eleven),
                     [None] + eleven[1:], eleven[:10] + [None], [(0, 0)] * 11]
            for thing in rows:
                with self.assertRaises(BadRibbons) as caught:
                    deed((0, 0), (1, 1), thing)
                self.assertEqual(caught.exception.index, -1)
            for thing in bad_ribbons() + ROW[:1]:
                for at in (1, 3, 6):
                    row = list(ROW)
                    row.insert(at, thing)
                    for ribbons in (row, row + [None], tuple(row) + (ROW[1],)):
                        with self.assertRaises(BadRibbons) as caught:
                            deed((0, 0), (1, 1), ribbons)
                        self.assertEqual(caught.exception.index, at)
            for thing in bad_ribbons():
                with self.assertRaises(BadRibbons) as caught:
                    deed((0, 0), (0, 0), [thing, *ROW])
                self.assertEqual(caught.exception.index, 0)
            self.assertEqual(deed((0, 0), (0, 0), eleven[:10]) in ([], True), True)
            self.assertEqual(deed((0, 0), (0, 0), ROW[:3]) in ([], True), True)

    def test_nothing_changes(self):
        for ribbons in (list(ROW), tuple(ROW)):
            kept = copy.deepcopy(ribbons)
            one, other = (0, 0), (Root(7, 0, 3), Root(-8, 1, 3))
            told = slides(one, other, ribbons)
            again = slides(one, other, ribbons)
            self.assertGreater(len(told), 3)
            self.assertEqual(told, again)
            self.assertIsNot(told, again)
            is_slides(one, other, ribbons, told)
            self.assertEqual(told, again)
            told.reverse()
            self.assertEqual(slides(one, other, ribbons), again)
            self.assertEqual(ribbons, kept)


class TestIsSlides(unittest.TestCase):
    def spoilings(self, told):
        yield tuple(told)
        yield told[::-1]
        yield [list(part) for part in told]
        for at in range(len(told)):
            yield told[:at] + told[at + 1:]
            yield told[:at]
            yield told[:at] + [told[at]] + told[at:]
            yield told + [told[at]]
            yield told[:at] + [list(told[at])] + told[at + 1:]
            yield told[:at] + [told[at][::-1]] + told[at + 1:]
            yield told[:at] + [told[at] + (0,)] + told[at + 1:]
            yield told[:at] + [told[at][:2]] + told[at + 1:]
            yield told[:at] + [None] + told[at:]
            for place in range(3):
                for index in (*range(-1, 7), True, False, "0", None, float(told[at][place]), Root(told[at][place], 0, 1)):
                    part = told[at][:place] + (index,) + told[at][place + 1:]
                    yield told[:at] + [part] + told[at + 1:]
            if at:
                yield told[:at - 1] + [told[at], told[at - 1]] + told[at + 1:]

    def test_spoiled(self):
        seen = {True: 0, False: 0}
        dice = seeded(166)
        for one, other, ribbons in [((0, 0), (Root(7, 0, 3), Root(-8, 1, 3)), ROW), ((0, 0), (2, 1), some_row(dice, 7, 1)),
                                    ((Root(1, 0, 3), 0), (Root(-4, 0, 3), 2), some_row(dice, 6, 1))]:
            told = slides(one, other, ribbons)
            self.assertGreater(len(told), 2)
            for thing in self.spoilings(told):
                judged = is_slides(one, other, ribbons, thing)
                self.assertIs(judged, is_right(one, other, ribbons, thing), thing)
                seen[judged] += 1
        # Flags that equal indexes are none; exchanged neighbours are at times as right as they were.
        self.assertGreater(seen[False], 100)
        self.assertGreater(seen[True], 10)

    def test_exchanged_neighbours(self):
        dice = seeded(167)
        seen = {True: 0, False: 0}
        while min(seen.values()) < 5:
            one, other, ribbons = some_shift(dice, 1), some_shift(dice, 1), some_row(dice, 8, 1)
            told = slides(one, other, ribbons)
            for at in range(1, len(told)):
                thing = told[:at - 1] + [told[at], told[at - 1]] + told[at + 1:]
                judged = is_slides(one, other, ribbons, thing)
                self.assertIs(judged, is_right(one, other, ribbons, thing))
                seen[judged] += 1

    def test_turned_about(self):
        one, other = (0, 0), (Root(7, 0, 3), Root(-8, 1, 3))
        told = slides(one, other, ROW)
        self.assertIs(is_slides(other, one, ROW, told[::-1]), True)
        self.assertIs(is_slides(one, other, ROW, told[::-1]), is_right(one, other, ROW, told[::-1]))
        self.assertIs(is_slides(other, one, ROW, told), is_right(other, one, ROW, told))
        self.assertIs(is_slides(one, one, ROW, told), False)
        self.assertIs(is_slides(one, other, ROW[::-1], told), is_right(one, other, ROW[::-1], told))

    def test_any_object(self):
        one, other = (0, 0), (2, 1)
        for thing in odd_things() + odd_tuples() + [1.5, 2j, {1}, R, Piece([]), Floor((0, 0))]:
            for paper in (thing, [thing], [(0, 1, thing)], [(thing, 1, 2)], slides(one, other, ROW) + [thing]):
                if paper != []:
                    self.assertIs(is_slides(one, other, ROW, paper), False)
        self.assertIs(is_slides(one, other, ROW, []), False)


if __name__ == "__main__":
    unittest.main()
