"""Heaps and tiles for several tests."""

from test_tiles import WAYS, bad_tiles
from samples import HUGE, odd_things

from threetiles.corners import greater
from threetiles.floors import Floor
from threetiles.roots import Root

R = Root(0, 1, 1)
ZERO = (0, 0, 0, 0)
# The heap of the document of which each two tiles lie in a floor, and three do not.
THREE = [((0, 4, 6, 4), 1, 3), ((1, 0, 0, -1), 1, 3), ((-1, 0, 0, 2), 0, 2)]
APART = [(ZERO, 0, 2), (ZERO, 1, 3)]


def tiles_of(floor, point, size):
    """The ascending list of the tiles of a floor with own corners near a point."""
    found = []
    for corner in floor.near(point, size):
        for i, j in WAYS:
            if floor.has_tile((corner, i, j)):
                found.append((corner, i, j))
    return found


def some_heap(dice, tiles, most):
    return dice.sample(tiles, dice.randint(1, min(most, len(tiles))))


def far_corner(many):
    """A corner far out with a star near (0, 0): each lesser place comes with a greater star, and the other way."""
    corner = (1, 0, 0, 0)
    for _ in range(many):
        corner = greater(corner)
    return corner


def star_beside(number, digits):
    """Integers (p, q) with p + q * r above a Root by less than one with so many digits behind the point."""
    p, q, step = 0, 0, (1, 0)
    rest = number
    while max(map(abs, step)) < 10 ** digits:
        many = rest.over(Root(step[0], step[1], 1)).whole()
        p, q = p + many * step[0], q + many * step[1]
        rest = number - Root(p, q, 1)
        # The steps are the powers of r - 1.
        last, step = step, (2 * step[1] - step[0], step[0] - step[1])
    return (p + last[0], q + last[1])


def heap_about(shift, digits):
    """Four squares, all of which only floors have whose shifts lie in a box of about so many digits about a shift.

    The square of the own corner (0, 0, 0, 0) has x and -x below 1/2, y below (1 + r) / 2 and -y below (1 - r) / 2.
    """
    x, y = shift
    aside, p, q = Root(1, 0, 2), Root(1, 1, 2), Root(1, -1, 2)
    # So far each square is moved: its right, upper, left or lower side lies close to the shift, the others do not.
    near_x, near_y = star_beside(x - aside, 2), star_beside(y - aside, 2)
    right, left = star_beside(x - aside, digits), negative(star_beside(-x - aside, digits))
    upper, lower = star_beside(y - p, digits), negative(star_beside(-y - q, digits))
    ways = [(right, near_y), (near_x, upper), (left, near_y), (near_x, lower)]
    return [((a, d - b, -c, b + d), 1, 3) for (a, b), (c, d) in ways]


def negative(pair):
    return (-pair[0], -pair[1])


def moved(heap, v):
    return [(tuple([part + more for part, more in zip(corner, v)]), i, j) for corner, i, j in heap]


def bad_heap_rows():
    """What is no row of at most 40 tiles, whatever is in it."""
    rows = [thing for thing in odd_things() if not isinstance(thing, list)] + [0, R, Floor((0, 0))]
    tile = (ZERO, 0, 1)
    return rows + [[tile] * 41, (tile,) * 41, [None] + [tile] * 40, [tile] * 20 + [ZERO] + [tile] * 20,
                   [tile] * 40 + [None], [tile] * 500]


def bad_items():
    return bad_tiles() + [THREE, (THREE[0],), HUGE]


def bad_heaps():
    """Tuples (heap, index) of what is no heap, and the index that an error of it keeps."""
    found = [(row, -1) for row in bad_heap_rows()]
    # More tiles in these would not be held, but wrong items are told first.
    good = [*APART, (ZERO, 0, 1), (ZERO, 2, 3)]
    for at in (0, 2, 4):
        for thing in bad_items():
            row = [*good[:at], thing, *good[at:], None]
            found.append((row, at))
        found.append((tuple([*good[:at], None, *good[at:]]), at))
    found.append(([good[0]] * 39 + [None], 39))
    return found
