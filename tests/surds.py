"""A second reckoning of numbers, pieces and heaps, told by the words of the document, for tests to compare with.

A polygon is the list of the corners of a convex set, going round to
the left; [] is a set without an area. Bounds are tuples (d, b) with a Surd b here, and let points on the rim, too.
"""

from functools import lru_cache
from math import gcd

VECTORS = [(1, 0), (1, 1), (0, 1), (-1, 1), (-1, 0), (-1, -1), (0, -1), (1, -1)]


class Surd:
    """(a + b * r) / c, c above 0."""

    __slots__ = ("a", "b", "c")

    def __init__(self, a, b=0, c=1):
        shared = gcd(a, b, c) if c > 0 else -gcd(a, b, c)
        self.a, self.b, self.c = a // shared, b // shared, c // shared

    def __add__(self, other):
        other = surd(other)
        return Surd(self.a * other.c + other.a * self.c, self.b * other.c + other.b * self.c, self.c * other.c)

    def __neg__(self):
        return Surd(-self.a, -self.b, self.c)

    def __sub__(self, other):
        return self + -surd(other)

    def __mul__(self, other):
        other = surd(other)
        return Surd(self.a * other.a + 2 * self.b * other.b, self.a * other.b + self.b * other.a, self.c * other.c)

    def __truediv__(self, other):
        other = surd(other)
        # 1 over (a + b * r) / c is c * (a - b * r) / (a * a - 2 * b * b).
        return self * Surd(other.a * other.c, -other.b * other.c, other.a ** 2 - 2 * other.b ** 2)

    __radd__ = __add__
    __rmul__ = __mul__

    def sign(self):
        a, b = self.a, self.b
        # The greater of the two parts tells the sign: a * a is never 2 * b * b but for 0.
        part = a if a * a > 2 * b * b else b
        return (part > 0) - (part < 0)

    def __eq__(self, other):
        other = surd(other)
        return (self.a, self.b, self.c) == (other.a, other.b, other.c)

    def __lt__(self, other):
        return (self - other).sign() < 0

    def __le__(self, other):
        return (self - other).sign() <= 0

    def __gt__(self, other):
        return (self - other).sign() > 0

    def __ge__(self, other):
        return (self - other).sign() >= 0

    def __repr__(self):
        return f"Surd({self.a}, {self.b}, {self.c})"


R = Surd(0, 1)
H = Surd(0, 1, 2)
HALF = Surd(1, 0, 2)
# The stars of the steps in the directions 0 to 3, at 0, 3, 6 and 9 eighths of a round.
STARS = [(Surd(1), Surd(0)), (-H, H), (Surd(0), Surd(-1)), (H, H)]


def surd(number):
    if isinstance(number, Surd):
        return number
    if isinstance(number, int):
        return Surd(number)
    return Surd(number.top, number.root, number.bottom)


def added(one, other, times=1):
    return (one[0] + other[0] * times, one[1] + other[1] * times)


def toward(d, point):
    return surd(point[0]) * VECTORS[d][0] + surd(point[1]) * VECTORS[d][1]


def star_of(corner):
    point = (Surd(0), Surd(0))
    for number, star in zip(corner, STARS):
        point = added(point, star, number)
    return point


def spanned(one, other):
    return one[0] * other[1] - one[1] * other[0]


def area(polygon):
    double = Surd(0)
    for one, other in zip(polygon, polygon[1:] + polygon[:1]):
        double = double + spanned(one, other)
    return double * HALF


def clipped(polygon, bound):
    """What of a polygon a bound lets."""
    d, number = bound
    found = []
    for one, other in zip(polygon, polygon[1:] + polygon[:1]):
        low, high = toward(d, one) - number, toward(d, other) - number
        if low <= 0:
            found.append(one)
        if low.sign() * high.sign() < 0:
            found.append(added(one, added(other, one, -1), low / (low - high)))
    return found if found and area(found) > 0 else []


def met(polygon, bounds):
    for bound in bounds:
        polygon = clipped(polygon, bound)
    return polygon


def beyond(bound):
    d, number = bound
    return ((d + 4) % 8, -number)


def lozenge_of(tile):
    """The polygon of the points m + c * v + d * w, c and d from -1/2 to 1/2."""
    corner, i, j = tile
    v, w = [STARS[k] for k in range(4) if k not in (i, j)]
    middle = added(added(star_of(corner), STARS[i], HALF), STARS[j], HALF)
    if spanned(v, w) < 0:
        v, w = w, v
    corners = []
    for c, d in [(-HALF, -HALF), (HALF, -HALF), (HALF, HALF), (-HALF, HALF)]:
        corners.append(added(added(middle, v, c), w, d))
    return corners


@lru_cache(maxsize=100000)
def sides_of_lozenge(tile):
    """The four bounds of the sides of a tile's lozenge, ascending by direction."""
    polygon = lozenge_of(tile)
    found = []
    for d in range(8):
        numbers = sorted([toward(d, point) for point in polygon])
        # On a side two corners are equally far out.
        if numbers[-1] == numbers[-2]:
            found.append((d, numbers[-1]))
    return found


def window_polygon():
    most = [HALF + H, Surd(1) + H]
    far = Surd(9)
    square = [(-far, -far), (far, -far), (far, far), (-far, far)]
    return met(square, [(d, most[d % 2]) for d in range(8)])


def heap_polygon(heap):
    """The polygon of the points in the lozenges of all tiles of a heap that has some."""
    polygon = lozenge_of(heap[0])
    for tile in heap[1:]:
        polygon = met(polygon, sides_of_lozenge(tile))
    return polygon


def lies_in(polygon, bounds):
    return all([toward(d, point) <= number for d, number in bounds for point in polygon])


def word_by(polygon, tile):
    """The word for a tile, for the floors with shifts in a polygon."""
    sides = sides_of_lozenge(tile)
    for d, number in sides:
        if all([toward(d, point) >= number for point in polygon]):
            return "never"
    if not met(polygon, sides):
        return "never"
    return "sure" if lies_in(polygon, sides) else "open"


def word_for(heap, tile):
    """The word for a tile and a heap with tiles that some floor has."""
    return word_by(heap_polygon(heap), tile)


def area_left(polygon, others):
    """The area of a polygon that is left by the sets of rows of bounds."""
    if not polygon:
        return Surd(0)
    if not others:
        return area(polygon)
    rest = area_left(polygon, others[1:])
    return rest - area_left(met(polygon, others[0]), others[1:])


def polygon_of(piece):
    """The polygon of a bounded Piece."""
    if piece.is_empty():
        return []
    x, y = [surd(number) for number in (piece.bounds[0], piece.bounds[2])]
    low, down = [-surd(number) for number in (piece.bounds[4], piece.bounds[6])]
    return met([(low, down), (x, down), (x, y), (low, y)], rows_of(piece))


def rows_of(piece):
    """The bounds of a Piece with points."""
    return [(d, surd(number)) for d, number in enumerate(piece.bounds) if number is not None]
