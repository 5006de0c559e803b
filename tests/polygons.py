"""A second reckoning of pieces, by fractions alone, for tests to compare with.

A row of bounds is told here by lines: tuples (vx, vy, b) of which vx * x + vy * y <= b is asked.
"""

from fractions import Fraction

VECTORS = [(1, 0), (1, 1), (0, 1), (-1, 1), (-1, 0), (-1, -1), (0, -1), (1, -1)]
# So far out that no bounds of small numbers meet there.
WIDE = 10 ** 9


def fraction(number):
    return Fraction(number) if isinstance(number, int) else Fraction(number.top, number.bottom)


def clipped(polygon, line):
    """What of a polygon, its corners going round, lies on the low side of a line."""
    vx, vy, b = line
    found = []
    for one, other in zip(polygon, polygon[1:] + polygon[:1]):
        low = vx * one[0] + vy * one[1] - b
        high = vx * other[0] + vy * other[1] - b
        if low <= 0:
            found.append(one)
        if low < 0 < high or high < 0 < low:
            part = low / (low - high)
            found.append((one[0] + part * (other[0] - one[0]), one[1] + part * (other[1] - one[1])))
    return found


def area(polygon):
    double = Fraction(0)
    for one, other in zip(polygon, polygon[1:] + polygon[:1]):
        double += one[0] * other[1] - one[1] * other[0]
    return double / 2


def polygon_of(bounds):
    """The corners, going round, of the closed set that bounds and the wide square let; [] without an area."""
    polygon = [(Fraction(x), Fraction(y)) for x, y in [(-WIDE, -WIDE), (WIDE, -WIDE), (WIDE, WIDE), (-WIDE, WIDE)]]
    for d, b in bounds:
        polygon = clipped(polygon, (*VECTORS[d], fraction(b)))
    if not polygon or area(polygon) == 0:
        return []
    return real_corners(polygon)


def real_corners(polygon):
    """The polygon without corners that come twice or lie straight between their neighbours."""
    once = [point for at, point in enumerate(polygon) if point != polygon[at - 1]]
    found = []
    for at, (x, y) in enumerate(once):
        ahead, behind = once[at - 1], once[(at + 1) % len(once)]
        if (x - ahead[0]) * (behind[1] - y) != (y - ahead[1]) * (behind[0] - x):
            found.append((x, y))
    first = found.index(min(found))
    return found[first:] + found[:first]


def tight(bounds):
    """The least numbers of the eight directions, None where there is none, or () without points."""
    polygon = polygon_of(bounds)
    if not polygon:
        return ()
    most = [max(vx * x + vy * y for x, y in polygon) for vx, vy in VECTORS]
    return tuple([None if number > WIDE // 10 else number for number in most])
