"""A second reckoning of floors, told by the words of the document alone, for tests to compare with.

A number a + b * r is a pair (a, b) of Fractions here.
"""

from fractions import Fraction


def pair(number):
    if isinstance(number, int):
        return (Fraction(number), Fraction(0))
    return (Fraction(number.top, number.bottom), Fraction(number.root, number.bottom))


def plus(one, other, times=1):
    return (one[0] + times * other[0], one[1] + times * other[1])


def above_zero(number):
    a, b = number
    if a > 0 and b >= 0 or a >= 0 and b > 0:
        return True
    if a <= 0 and b <= 0:
        return False
    return a * a > 2 * b * b if a > 0 else 2 * b * b > a * a


def below(one, other):
    return above_zero(plus(other, one, -1))


def star_of(corner):
    x0, x1, x2, x3 = corner
    half = Fraction(1, 2)
    return ((Fraction(x0), -half * (x1 - x3)), (Fraction(-x2), half * (x1 + x3)))


def place_of(corner):
    x0, x1, x2, x3 = corner
    half = Fraction(1, 2)
    return ((Fraction(x0), half * (x1 - x3)), (Fraction(x2), half * (x1 + x3)))


def squared(number):
    a, b = number
    return (a * a + 2 * b * b, 2 * a * b)


def has_corner(shift, corner):
    x, y = [plus(part, pair(number), -1) for part, number in zip(star_of(corner), shift)]
    edge = (Fraction(1, 2), Fraction(1, 2))
    far = (Fraction(1), Fraction(1, 2))
    zero = (Fraction(0), Fraction(0))
    for number, most in [(x, edge), (y, edge), (plus(x, y), far), (plus(x, y, -1), far)]:
        if not below(number, most) or not below(plus(zero, number, -1), most):
            return False
    return True


def at_most(corner, point, size):
    x, y = [plus(part, pair(number), -1) for part, number in zip(place_of(corner), point)]
    return not above_zero(plus(plus(squared(x), squared(y)), (Fraction(-size * size), Fraction(0))))


def moved(corner, direction):
    parts = list(corner)
    parts[direction % 4] += 1 if direction < 4 else -1
    return tuple(parts)


def sides(shift, corner):
    return tuple([d for d in range(8) if has_corner(shift, moved(corner, d))])


def whole(fraction):
    return Fraction(fraction).denominator == 1


def barred(shift):
    x, y = [pair(number) for number in shift]
    half = Fraction(1, 2)
    evenly = [whole(a - half) and whole(2 * b) for a, b in (y, x)]
    oddly = [whole(a) and whole(b - half) for a, b in (plus(y, x), plus(y, x, -1))]
    for direction, bars in enumerate([evenly[0], oddly[0], evenly[1], oddly[1]]):
        if bars:
            return direction
    return None
