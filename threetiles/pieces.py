"""Pieces: the sets of points that rows of bounds let."""

from threetiles.bounds import VECTORS, check_bounds, is_bound, least_numbers, opposite, tightened, toward
from threetiles.errors import BadBounds, EmptyPiece, Unbounded
from threetiles.points import crossed
from threetiles.roots import Root, as_root


def rows_of(piece):
    """A list of bounds that together let just the points of a piece."""
    if piece.is_empty():
        # No x is both below 0 and above 0.
        return [(0, 0), (4, 0)]
    return [(d, number) for d, number in enumerate(piece.bounds) if number is not None]


def rim_corner(bounds, d):
    """The point at which the rims of the bounds of d and of the next direction meet."""
    far = (d + 1) % 8
    x, y = VECTORS[d]
    far_x, far_y = VECTORS[far]
    # Two vectors of which one is next to the other span an area of 1: nothing is left to divide by.
    return (bounds[d] * far_y - bounds[far] * y, bounds[far] * x - bounds[d] * far_x)


def is_ahead(one, other):
    """Whether a point comes ahead of another one, by x, then y."""
    if one[0] == other[0]:
        return one[1].less(other[1])
    return one[0].less(other[0])


def from_least(points):
    """The tuple of points in the same order round, from the least one on."""
    first = 0
    for at, point in enumerate(points):
        if is_ahead(point, points[first]):
            first = at
    return tuple(points[first:] + points[:first])


def least_of(numbers):
    """The least of the Roots in a row, or None if there are only None."""
    least = None
    for number in numbers:
        if number is not None and (least is None or number.less(least)):
            least = number
    return least


def odd_between(low, high):
    """A fraction with an odd bottom between two Roots; a None sets no end."""
    if low is None and high is None:
        return Root(0, 0, 1)
    if low is None:
        return Root(high.whole() - 1, 0, 1)
    if high is None:
        return Root(low.whole() + 1, 0, 1)
    # With a bottom above 2 / width, the fraction that is nearest to the middle lies
    # less than a quarter of the width away from it.
    bottom = Root(2, 0, 1).over(high - low).whole() + 1
    if bottom % 2 == 0:
        bottom = bottom + 1
    middle = (low + high).over(2)
    return Root((middle * bottom).nearest(), 0, bottom)


def between(least, other):
    """A fraction with an odd bottom below a Root, and above another one with the sign changed."""
    return odd_between(None if other is None else -other, least)


class Piece:
    """The set of all points that each bound of a row lets."""

    def __init__(self, bounds):
        check_bounds(bounds)
        self.bounds = tightened(least_numbers(bounds))

    def __eq__(self, other):
        return isinstance(other, Piece) and self.bounds == other.bounds

    def has(self, point):
        """Whether a point belongs to the piece."""
        return all([toward(d, point).less(number) for d, number in rows_of(self)])

    def is_empty(self):
        """Whether the piece has no points."""
        return len(self.bounds) == 0

    def met(self, other):
        """The piece of the points that belong to both."""
        return Piece(rows_of(self) + rows_of(other))

    def led(self, point):
        """The piece moved by a point."""
        return Piece([(d, toward(d, point) + number) for d, number in rows_of(self)])

    def grown(self, number):
        """The piece with all points multiplied by a number that is not 0."""
        times = as_root(number)
        if times.sign() < 0:
            # Below 0 each side comes to lie across from where it was.
            return Piece([((d + 4) % 8, -times * far) for d, far in rows_of(self)])
        return Piece([(d, times * far) for d, far in rows_of(self)])

    def within(self, other):
        """Whether all points of the piece belong to another one."""
        if self.is_empty() or other.is_empty():
            return self.is_empty()
        for d, number in rows_of(other):
            if self.bounds[d] is None or number.less(self.bounds[d]):
                return False
        return True

    def let_point(self):
        """A point of the piece that is a shift that no direction bars."""
        if self.is_empty():
            raise EmptyPiece()
        # Shifts of fractions are barred only if one of them is a half, so odd bottoms do.
        x = between(self.bounds[0], self.bounds[4])
        # The bounds are the least ones, so above each x that they let there is some y.
        left = [None if far is None else far - x * VECTORS[d][0] for d, far in enumerate(self.bounds)]
        return (x, between(least_of(left[1:4]), least_of(left[5:8])))

    def is_bounded(self):
        """Whether the piece lies within some circle."""
        return all([number is not None for number in self.bounds])

    def corners(self):
        """The tuple of the corners of the rim, going round to the left, from the least one on."""
        if not self.is_bounded():
            raise Unbounded()
        found = []
        for d in range(len(self.bounds)):
            corner = rim_corner(self.bounds, d)
            # Where more than two rims meet, the same corner comes several times.
            if len(found) == 0 or corner != found[-1]:
                found.append(corner)
        if len(found) > 1 and found[0] == found[-1]:
            found.pop()
        return from_least(found)

    def area(self):
        """The area of the piece."""
        corners = self.corners()
        double = Root(0, 0, 1)
        for at, corner in enumerate(corners):
            double = double + crossed(corners[at - 1], corner)
        return double.over(2)

    def parted(self, bound):
        """The pieces of the points that a bound lets, and of those beyond it."""
        if not is_bound(bound):
            raise BadBounds(0)
        rows = rows_of(self)
        return (Piece(rows + [bound]), Piece(rows + [opposite(bound)]))
