import copy
import unittest
from fractions import Fraction

import polygons
from samples import HUGE, odd_things, odd_tuples, seeded, some_root

from threetiles.errors import BadBounds, EmptyPiece, FloorError, Unbounded
from threetiles.floors import Floor, barred
from threetiles.pieces import Piece
from threetiles.points import added, scaled
from threetiles.roots import Root

R = Root(0, 1, 1)
H = Root(0, 1, 2)
TINY = Root(1, 0, 1)
for _ in range(60):
    TINY = TINY * Root(-1, 1, 1)
EDGE, FAR = Root(1, 1, 2), Root(2, 1, 2)
WINDOW = [(0, EDGE), (1, FAR), (2, EDGE), (3, FAR), (4, EDGE), (5, FAR), (6, EDGE), (7, FAR)]
TRIANGLE = [(0, 1), (2, 1), (5, 1)]
SQUARE = [(0, 1), (2, 1), (4, 0), (6, 0)]
VECTORS = polygons.VECTORS


def bad_rows():
    """What is no row of at most 400 bounds."""
    rows = [thing for thing in odd_things() if not isinstance(thing, list)] + [0, R, Piece([])]
    return rows + [[(0, 1)] * 401, ((0, 1),) * 401, [(0, 1)] * 400 + ["bad"], ["bad"] + [(0, 1)] * 400]


def bad_bounds():
    """What is no bound."""
    return odd_things() + odd_tuples() + [
        0, R, [0, 1], (0,), (0, 1, 2), (8, 1), (-1, 1), (True, 1), (0, True), (False, 1), (0, None), (0, "1"),
        (0, (1, 0, 1)), (R, 1), (Root(0, 0, 1), 1), ("0", 1), (HUGE, 1), (1, [1]),
    ]


def small_rows(dice, many):
    """A row of bounds of small fractions."""
    row = []
    for _ in range(many):
        number = dice.choice([dice.randint(-3, 6), Root(dice.randint(-9, 18), 0, dice.randint(1, 3))])
        row.append((dice.randint(0, 7), number))
    return row


def rows_with_r(dice, many, most):
    return [(dice.randint(0, 7), some_root(dice, most, 5) + most // 2) for _ in range(many)]


def reached(d, point):
    vx, vy = VECTORS[d]
    return point[0] * vx + point[1] * vy


class TestMaking(unittest.TestCase):
    def test_all_points(self):
        for bounds in ([], ()):
            piece = Piece(bounds)
            self.assertEqual(piece.bounds, (None,) * 8)
            self.assertIs(piece.has((HUGE, -HUGE * R)), True)
            self.assertIs(piece.is_empty(), False)
            self.assertIs(piece.is_bounded(), False)

    def test_without_points(self):
        for bounds in ([(0, 0), (4, 0)], [(0, 1), (4, -2)], [(0, 0), (3, 0), (6, 0)], [(1, 0), (4, 0), (7, 0)],
                       [(0, R), (4, -R), (2, 5)], ((1, -1), (3, -1), (6, 1))):
            piece = Piece(bounds)
            self.assertEqual(piece.bounds, ())
            self.assertIs(piece.is_empty(), True)
            self.assertIs(piece.has((0, 0)), False)
            self.assertIs(piece.is_bounded(), True)
            self.assertEqual(piece.corners(), ())
            self.assertIs(type(piece.corners()), tuple)
            self.assertEqual(piece.area(), 0)
            self.assertIs(type(piece.area()), Root)

    def test_bounds_are_roots(self):
        piece = Piece(SQUARE)
        self.assertIs(type(piece.bounds), tuple)
        self.assertEqual([type(number) for number in piece.bounds], [Root] * 8)
        self.assertEqual(piece.bounds, (1, 2, 1, 1, 0, 0, 0, 1))
        self.assertEqual(Piece([(3, 5)]).bounds, (None, None, None, 5, None, None, None, None))
        self.assertEqual(Piece([(3, 5), (3, R), (3, 2)]).bounds, (None, None, None, R, None, None, None, None))

    def test_implied_bounds(self):
        # Two bounds that stand two or three eighths apart imply those between them.
        for d in range(8):
            for weight, one, other in [(2 if d % 2 == 0 else 1, (-1, 1), (1, 1)),
                                       (1, (-1, 1 + d % 2), (2, 1)), (1, (-2, 1), (1, 1 + d % 2))]:
                row = [((d + one[0]) % 8, R + 1), ((d + other[0]) % 8, Root(2, 0, 3))]
                implied = (one[1] * (R + 1) + other[1] * Root(2, 0, 3)).over(weight)
                self.assertEqual(Piece(row).bounds[d], implied)
                self.assertEqual(Piece(row + [(d, implied + TINY)]).bounds[d], implied)
                self.assertEqual(Piece(row + [(d, implied - TINY)]).bounds[d], implied - TINY)
                self.assertTrue(Piece(row) == Piece(row + [(d, implied)]))
                self.assertFalse(Piece(row) == Piece(row + [(d, implied - TINY)]))

    def test_as_clipped(self):
        dice = seeded(61)
        seen = {"empty": 0, "bounded": 0, "open": 0}
        for _ in range(500):
            row = small_rows(dice, dice.randint(0, 9))
            piece = Piece(row)
            told = polygons.tight(row)
            self.assertEqual(len(piece.bounds), len(told))
            for number, other in zip(piece.bounds, told):
                if other is None:
                    self.assertIsNone(number)
                else:
                    self.assertEqual((number.root, Fraction(number.top, number.bottom)), (0, other))
            self.assertIs(piece.is_empty(), told == ())
            self.assertIs(piece.is_bounded(), None not in told)
            seen["empty" if told == () else "open" if None in told else "bounded"] += 1
            if None in told:
                for deed in (piece.corners, piece.area):
                    with self.assertRaises(Unbounded):
                        deed()
            elif told:
                polygon = polygons.polygon_of(row)
                self.assertEqual([tuple(map(polygons.fraction, corner)) for corner in piece.corners()], polygon)
                self.assertEqual(polygons.fraction(piece.area()), polygons.area(polygon))
        self.assertTrue(min(seen.values()) > 40, seen)

    def test_just_barred_or_not(self):
        # The numbers b, each times its weight, sum to 0, or to a very little more.
        ways = [([0, 4], [1, 1]), ([1, 5], [1, 1]), ([2, 6], [1, 1]), ([3, 7], [1, 1]),
                ([0, 3, 6], [1, 1, 1]), ([1, 4, 7], [1, 2, 1]), ([0, 2, 5], [1, 1, 1]), ([1, 3, 6], [1, 1, 2]),
                ([2, 4, 7], [1, 1, 1]), ([0, 3, 5], [2, 1, 1]), ([1, 4, 6], [1, 1, 1]), ([2, 5, 7], [2, 1, 1])]
        for directions, weights in ways:
            for first in (Root(3, 1, 7), Root(HUGE, -5, 3), Root(0, 0, 1)):
                numbers = [first, Root(-2, 5, 3), Root(1, 1, 1)][:len(directions) - 1]
                total = Root(0, 0, 1)
                for number, weight in zip(numbers, weights):
                    total = total + number * weight
                last = (-total).over(weights[-1])
                row = list(zip(directions, numbers + [last]))
                self.assertIs(Piece(row).is_empty(), True)
                for tiny in (TINY, Root(1, 0, HUGE)):
                    much = list(zip(directions, numbers + [last + tiny]))
                    piece = Piece(much)
                    self.assertIs(piece.is_empty(), False)
                    point = piece.let_point()
                    for d, number in much:
                        self.assertTrue(reached(d, point).less(number))
                    less = list(zip(directions, numbers + [last - tiny]))
                    self.assertIs(Piece(less).is_empty(), True)

    def test_wrong(self):
        for thing in bad_rows():
            with self.assertRaises(BadBounds) as caught:
                Piece(thing)
            self.assertEqual(caught.exception.index, -1)
            self.assertIsInstance(caught.exception, FloorError)
        for thing in bad_bounds():
            for at in (0, 2, 5):
                row = [(0, 1), (2, R), (4, 7), (6, 0), (1, 1)]
                row.insert(at, thing)
                for some in (row, row + [None], tuple(row)):
                    with self.assertRaises(BadBounds) as caught:
                        Piece(some)
                    self.assertEqual(caught.exception.index, at)
        with self.assertRaises(BadBounds) as caught:
            Piece([(0, 1)] * 399 + [0])
        self.assertEqual(caught.exception.index, 399)
        self.assertEqual(Piece([(0, 1)] * 399 + [(0, R - 1)]).bounds[0], R - 1)

    def test_row_is_copied(self):
        row = list(WINDOW)
        kept = copy.deepcopy(row)
        piece = Piece(row)
        self.assertEqual(row, kept)
        row.clear()
        row.append((0, -HUGE))
        self.assertEqual(piece.bounds, (EDGE, FAR) * 4)
        self.assertEqual(piece.area(), Root(2, 2, 1))


class TestEqual(unittest.TestCase):
    def test_told_by_different_rows(self):
        self.assertTrue(Piece(SQUARE) == Piece(SQUARE + [(1, 2), (3, 50), (0, 7)]))
        self.assertTrue(Piece(SQUARE) == Piece(tuple(reversed(SQUARE))))
        self.assertFalse(Piece(SQUARE) != Piece(SQUARE + [(1, 2)]))
        self.assertTrue(Piece(SQUARE) != Piece(SQUARE + [(1, 2 - TINY)]))
        self.assertTrue(Piece([(0, 0), (4, 0)]) == Piece([(2, -3), (6, 1), (1, 1)]))
        self.assertFalse(Piece([]) == Piece([(0, 0), (4, 0)]))
        self.assertFalse(Piece([]) == Piece([(0, HUGE)]))
        self.assertTrue(Piece([]) == Piece(()))

    def test_to_nothing_else(self):
        for piece in (Piece([]), Piece(SQUARE), Piece([(0, 0), (4, 0)])):
            for thing in odd_things() + odd_tuples() + [piece.bounds, list(piece.bounds), 0, R, Floor((0, 0))]:
                self.assertIs(piece == thing, False)
                self.assertIs(piece != thing, True)


class TestHas(unittest.TestCase):
    def test_rims_are_left_out(self):
        piece = Piece(WINDOW)
        self.assertIs(piece.has((0, 0)), True)
        for at, corner in enumerate(piece.corners()):
            self.assertIs(piece.has(corner), False)
            self.assertIs(piece.has(scaled(1 - TINY, corner)), True)
            self.assertIs(piece.has(scaled(1 + TINY, corner)), False)
            middle = scaled(Root(1, 0, 2), added(corner, piece.corners()[at - 1]))
            self.assertIs(piece.has(middle), False)
            self.assertIs(piece.has(scaled(1 - TINY, middle)), True)

    def test_each_bound_counts(self):
        for d, (vx, vy) in enumerate(VECTORS):
            point = (vx, vy)
            square = vx * vx + vy * vy
            self.assertIs(Piece([(d, square)]).has(point), False)
            self.assertIs(Piece([(d, square + TINY)]).has(point), True)
            self.assertIs(Piece([(d, square)]).has(scaled(1 - TINY, point)), True)
            self.assertIs(Piece([(d, square)]).has((-vx * HUGE, -vy * HUGE)), True)

    def test_as_told(self):
        dice = seeded(62)
        for _ in range(100):
            row = rows_with_r(dice, dice.randint(1, 6), 9)
            piece = Piece(row)
            for _ in range(5):
                point = (some_root(dice, 9, 4), dice.randint(-5, 5))
                told = all([reached(d, point).less(number) for d, number in row])
                self.assertIs(piece.has(point), told)


class TestMoves(unittest.TestCase):
    def pieces(self):
        dice = seeded(63)
        return [Piece(rows_with_r(dice, many, 8)) for many in (0, 1, 2, 3, 4, 6, 8) for _ in range(8)]

    def test_met(self):
        pieces = self.pieces()
        dice = seeded(64)
        points = [(some_root(dice, 9, 4), some_root(dice, 9, 4)) for _ in range(20)]
        for one, other in zip(pieces, pieces[::-1] + pieces[3:]):
            both = one.met(other)
            self.assertTrue(both == other.met(one))
            self.assertTrue(both.within(one) and both.within(other))
            for point in points:
                self.assertIs(both.has(point), one.has(point) and other.has(point))
        self.assertTrue(Piece(SQUARE).met(Piece([(4, -1)])).is_empty())
        self.assertTrue(Piece(SQUARE).met(Piece([])) == Piece(SQUARE))
        self.assertTrue(Piece([(0, 0), (4, 0)]).met(Piece([])).is_empty())
        self.assertTrue(Piece([]).met(Piece([(0, 0), (4, 0)])).is_empty())
        self.assertEqual(Piece([(0, 1), (2, 1)]).met(Piece([(5, 1)])).area(), Root(9, 0, 2))

    def test_led(self):
        dice = seeded(65)
        for piece in self.pieces():
            by = (some_root(dice, 9, 4), dice.randint(-9, 9))
            other = piece.led(by)
            for _ in range(10):
                point = (some_root(dice, 9, 4), some_root(dice, 9, 4))
                self.assertIs(other.has(added(point, by)), piece.has(point))
            self.assertTrue(other.led(scaled(-1, by)) == piece)
            self.assertIs(other.is_empty(), piece.is_empty())
        self.assertEqual(Piece(SQUARE).led((R, -2)).corners(), ((R, -2), (R + 1, -2), (R + 1, -1), (R, -1)))

    def test_grown(self):
        dice = seeded(66)
        for piece in self.pieces():
            for number in (2, -1, -3, Root(1, 0, 3), 1 + R, 1 - R, Root(-7, 0, 5)):
                other = piece.grown(number)
                self.assertIs(other.is_empty(), piece.is_empty())
                for _ in range(4):
                    point = (some_root(dice, 9, 4), some_root(dice, 9, 4))
                    self.assertIs(other.has(scaled(number, point)), piece.has(point))
                self.assertTrue(other.grown(Root(1, 0, 1).over(number)) == piece)
                if piece.is_bounded():
                    self.assertEqual(other.area(), piece.area() * number * number)
        self.assertEqual(Piece(SQUARE).grown(-2).corners(), ((-2, -2), (0, -2), (0, 0), (-2, 0)))
        self.assertEqual(Piece(TRIANGLE).grown(-1).bounds, (2, 1, 2, 3, 1, 2, 1, 3))

    def test_within(self):
        pieces = self.pieces() + [Piece([(0, 0), (4, 0)]), Piece([]), Piece(SQUARE)]
        for one in pieces:
            for other in pieces[::5]:
                both = one.met(other)
                self.assertIs(one.within(other), both == one)
            self.assertIs(one.within(one), True)
            self.assertIs(one.within(Piece([])), True)
            self.assertIs(Piece([(0, 0), (4, 0)]).within(one), True)
        self.assertIs(Piece([]).within(Piece(SQUARE)), False)
        self.assertIs(Piece(SQUARE).within(Piece([(0, 0), (4, 0)])), False)
        self.assertIs(Piece([]).within(Piece([(0, 0), (4, 0)])), False)
        self.assertIs(Piece(SQUARE).within(Piece([(1, 2), (0, 5)])), True)
        self.assertIs(Piece(SQUARE).within(Piece([(1, 2 - TINY)])), False)
        self.assertIs(Piece([(1, 2 - TINY)]).within(Piece(SQUARE)), False)
        self.assertIs(Piece(SQUARE).within(Piece(SQUARE + [(1, 2)])), True)

    def test_parted(self):
        dice = seeded(67)
        for piece in self.pieces():
            bound = (dice.randint(0, 7), some_root(dice, 9, 4))
            told = piece.parted(bound)
            self.assertIs(type(told), tuple)
            low, high = told
            self.assertTrue(low == piece.met(Piece([bound])))
            self.assertTrue(high == piece.met(Piece([((bound[0] + 4) % 8, -bound[1])])))
            for _ in range(10):
                point = (some_root(dice, 9, 4), some_root(dice, 9, 4))
                value = reached(bound[0], point)
                self.assertIs(low.has(point), piece.has(point) and value.less(bound[1]))
                self.assertIs(high.has(point), piece.has(point) and bound[1].less(value))
            if piece.is_bounded():
                self.assertEqual(low.area() + high.area(), piece.area())

    def test_parted_beside_and_on_the_rim(self):
        piece = Piece(SQUARE)
        empty = Piece([(0, 0), (4, 0)])
        for bound, low, high in [((0, 1), piece, empty), ((0, 2), piece, empty), ((0, 0), empty, piece),
                                 ((0, -5), empty, piece), ((1, 2), piece, empty), ((5, -2), empty, piece),
                                 ((1, 0), empty, piece), ((7, R), piece, empty)]:
            told = piece.parted(bound)
            self.assertTrue(told[0] == low and told[1] == high, bound)
        low, high = piece.parted((1, 1))
        self.assertEqual(low.corners(), ((0, 0), (1, 0), (0, 1)))
        self.assertEqual(high.corners(), ((0, 1), (1, 0), (1, 1)))
        low, high = piece.parted((0, 1 - TINY))
        self.assertEqual((low.area(), high.area()), (1 - TINY, TINY))
        self.assertTrue(empty.parted((0, 1))[0].is_empty() and empty.parted((0, 1))[1].is_empty())

    def test_parted_wrong(self):
        for thing in bad_bounds():
            for piece in (Piece(SQUARE), Piece([(0, 0), (4, 0)])):
                with self.assertRaises(BadBounds) as caught:
                    piece.parted(thing)
                self.assertEqual(caught.exception.index, 0)

    def test_pieces_stay(self):
        one, other = Piece(SQUARE), Piece(TRIANGLE)
        row = (1, 1)
        one.met(other), one.led((1, R)), one.grown(-2), one.within(other), one.parted(row), one.let_point()
        self.assertTrue(one == Piece(SQUARE) and other == Piece(TRIANGLE))
        self.assertEqual(row, (1, 1))


class TestCorners(unittest.TestCase):
    def test_window(self):
        near = Root(1, 0, 2)
        self.assertEqual(Piece(WINDOW).corners(), (
            (-EDGE, -near), (-near, -EDGE), (near, -EDGE), (EDGE, -near),
            (EDGE, near), (near, EDGE), (-near, EDGE), (-EDGE, near)))
        self.assertEqual(Piece(WINDOW).area(), Root(2, 2, 1))

    def test_kinds_of_answers(self):
        told = Piece(SQUARE).corners()
        self.assertIs(type(told), tuple)
        self.assertEqual([type(part) for corner in told for part in corner], [Root] * 8)
        self.assertIs(type(Piece(SQUARE).area()), Root)
        self.assertEqual(told, ((0, 0), (1, 0), (1, 1), (0, 1)))

    def test_example(self):
        self.assertEqual(Piece(TRIANGLE).area(), Root(9, 0, 2))
        self.assertEqual(Piece(TRIANGLE).corners(), ((-2, 1), (1, -2), (1, 1)))

    def test_three_and_more_rims_in_a_corner(self):
        for more in ([(1, 2)], [(7, 1)], [(1, 2), (7, 1), (3, 1), (5, 0)], [(1, 2), (1, 2), (0, 1)]):
            self.assertEqual(Piece(SQUARE + more).corners(), ((0, 0), (1, 0), (1, 1), (0, 1)))
        diamond = [(1, 1), (3, 1), (5, 1), (7, 1)]
        for more in ([], [(0, 1)], [(0, 1), (2, 1), (4, 1), (6, 1)]):
            self.assertEqual(Piece(diamond + more).corners(), ((-1, 0), (0, -1), (1, 0), (0, 1)))
        self.assertEqual(
            Piece(TRIANGLE + [(0, 1), (3, 3), (7, 3), (1, 2)]).corners(), Piece(TRIANGLE).corners())

    def test_least_by_x_then_y(self):
        self.assertEqual(Piece([(0, 1), (4, TINY), (2, 1), (6, 1)]).corners()[0], (-TINY, -1))
        self.assertEqual(Piece([(0, 0), (3, 0), (6, R)]).corners()[0], (-R, -R))

    def test_as_rims_tell(self):
        dice = seeded(68)
        many = 0
        for _ in range(150):
            piece = Piece(rows_with_r(dice, dice.randint(4, 9), 9))
            if piece.is_empty() or not piece.is_bounded():
                continue
            many += 1
            corners = piece.corners()
            total = Root(0, 0, 1)
            for at, corner in enumerate(corners):
                ahead, behind = corners[at - 1], corners[(at + 1) % len(corners)]
                turn = ((corner[0] - ahead[0]) * (behind[1] - corner[1])
                        - (corner[1] - ahead[1]) * (behind[0] - corner[0]))
                self.assertEqual(turn.sign(), 1)
                total = total + ahead[0] * corner[1] - ahead[1] * corner[0]
                self.assertFalse(corner[0].less(corners[0][0]))
                if corner[0] == corners[0][0]:
                    self.assertFalse(corner[1].less(corners[0][1]))
            for d, number in enumerate(piece.bounds):
                values = [reached(d, corner) for corner in corners]
                self.assertFalse(any([number.less(value) for value in values]))
                self.assertTrue(any([value == number for value in values]))
            self.assertEqual(piece.area(), total.over(2))
        self.assertGreater(many, 30)

    def test_unbounded(self):
        for bounds in ([], [(0, 1)], [(0, 1), (4, 1)], [(0, 1), (2, 1), (1, 0)], [(0, 1), (2, 1), (6, 3)],
                       [(1, 1), (3, 1), (2, 0)]):
            piece = Piece(bounds)
            self.assertIs(piece.is_bounded(), False)
            for deed in (piece.corners, piece.area):
                with self.assertRaises(Unbounded):
                    deed()


class TestLetPoint(unittest.TestCase):
    def check(self, piece):
        point = piece.let_point()
        self.assertIs(type(point), tuple)
        self.assertEqual([type(part) for part in point], [Root, Root])
        self.assertTrue(piece.has(point))
        self.assertIsNone(barred(point))
        self.assertEqual(Floor(point).shift, point)
        self.assertEqual(piece.let_point(), point)
        return point

    def test_of_all_kinds(self):
        self.check(Piece([]))
        dice = seeded(69)
        for many in (1, 2, 3, 4, 5, 7):
            for _ in range(40):
                piece = Piece(rows_with_r(dice, many, 9))
                if not piece.is_empty():
                    self.check(piece)
                half = Piece([(d, Root(dice.randint(-3, 9), 0, 2)) for d in range(0, 8, dice.choice([1, 2]))])
                if not half.is_empty():
                    self.check(half)

    def test_small_ones_about_barred_points(self):
        for middle in [(Root(1, 0, 2), 0), (0, Root(1, 0, 2)), (Root(1, 0, 2), Root(-3, 0, 2)), (H, 0), (R, H),
                       (Root(2 * HUGE + 1, 0, 2), Root(1, HUGE, 2)), (EDGE, EDGE)]:
            self.assertIsNotNone(barred(middle))
            for size in (1, TINY, Root(1, 0, HUGE), TINY.over(HUGE)):
                for bounds in (WINDOW, TRIANGLE, SQUARE):
                    piece = Piece(bounds).grown(size).led(middle)
                    self.check(piece)

    def test_thin_ones(self):
        for d in range(8):
            for number in (Root(1, 0, 2), Root(1, 1, 2), Root(HUGE, 3, 7)):
                strip = [(d, number + TINY), ((d + 4) % 8, -number)]
                self.check(Piece(strip))
                across = (d + 2) % 8
                self.check(Piece(strip + [(across, Root(1, 0, 2)), ((across + 4) % 8, HUGE)]))
                self.check(Piece(strip + [(across, number), ((across + 4) % 8, -number + TINY)]))

    def test_not_too_many_digits(self):
        small = Root(1, 0, 10 ** 60)
        for bounds in (WINDOW, TRIANGLE):
            piece = Piece(bounds).grown(small).led((HUGE * R, -HUGE))
            for part in self.check(piece):
                self.assertLess(max(abs(part.top), abs(part.root), part.bottom), 10 ** 400)

    def test_equal_pieces_tell_equal_points(self):
        self.assertEqual(Piece(SQUARE).let_point(), Piece(SQUARE[::-1] + [(1, 2), (7, 9)]).let_point())

    def test_without_points(self):
        with self.assertRaises(EmptyPiece):
            Piece([(0, 0), (4, 0)]).let_point()


if __name__ == "__main__":
    unittest.main()
