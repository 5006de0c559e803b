"""Corners: tuples of four integers, with their places and their stars."""

from threetiles.errors import BadCorner, BadDirection, BadPoint
from threetiles.points import as_roots, is_point
from threetiles.roots import Root, is_integral

ORIGIN = (0, 0, 0, 0)


def is_corner(thing):
    """Whether a thing is a corner."""
    return isinstance(thing, tuple) and len(thing) == 4 and all([is_integral(part) for part in thing])


def check_corner(corner):
    """Raises what is due for what is no corner."""
    if not is_corner(corner):
        raise BadCorner(corner)


def is_direction(thing):
    """Whether a thing is a direction."""
    return is_integral(thing) and 0 <= thing <= 7


def step(corner, direction, many):
    """As stepped, for what is known to be a corner and a direction."""
    parts = list(corner)
    at = direction % 4
    if direction < 4:
        parts[at] = parts[at] + many
    else:
        parts[at] = parts[at] - many
    return tuple(parts)


def stepped(corner, direction, many):
    """The corner so many steps farther in a direction."""
    check_corner(corner)
    if not is_direction(direction):
        raise BadDirection(direction)
    return step(corner, direction, many)


def place(corner):
    """The point at which a corner lies."""
    check_corner(corner)
    x0, x1, x2, x3 = corner
    return (Root(2 * x0, x1 - x3, 2), Root(2 * x2, x1 + x3, 2))


def star(corner):
    """The point that tells in which floors a corner lies."""
    check_corner(corner)
    x0, x1, x2, x3 = corner
    return (Root(2 * x0, x3 - x1, 2), Root(-2 * x2, x1 + x3, 2))


def split_halves(number):
    """The integers (whole, halves) with number = whole + halves * r / 2, or None."""
    if (2 * number.root) % number.bottom != 0 or number.top % number.bottom != 0:
        return None
    return (number.top // number.bottom, 2 * number.root // number.bottom)


def joined(x0, difference, x2, both):
    """The corner with x1 - x3 and x1 + x3 as told, or None if there is none."""
    if (difference + both) % 2 != 0:
        return None
    return (x0, (both + difference) // 2, x2, (both - difference) // 2)


def corner_at(point):
    """The corner with a place, or None."""
    if not is_point(point):
        raise BadPoint(point)
    x, y = as_roots(point)
    across = split_halves(x)
    along = split_halves(y)
    if across is None or along is None:
        return None
    return joined(across[0], across[1], along[0], along[1])


def corner_with(point):
    """The corner with a star, or None."""
    if not is_point(point):
        raise BadPoint(point)
    x, y = as_roots(point)
    across = split_halves(x)
    along = split_halves(y)
    if across is None or along is None:
        return None
    return joined(across[0], -across[1], -along[0], along[1])


def turned(corner, eighths):
    """The corner whose place is turned about (0, 0) by so many eighths of a round."""
    check_corner(corner)
    x0, x1, x2, x3 = corner
    for _ in range(eighths % 8):
        x0, x1, x2, x3 = -x3, x0, x1, x2
    return (x0, x1, x2, x3)


def mirrored(corner):
    """The corner whose place lies as far on the other side of the line y = 0."""
    check_corner(corner)
    x0, x1, x2, x3 = corner
    return (x0, -x3, -x2, -x1)


def greater(corner):
    """The corner whose place is 1 + r times as far out."""
    check_corner(corner)
    x0, x1, x2, x3 = corner
    return (x0 + x1 - x3, x1 + x0 + x2, x2 + x1 + x3, x3 - x0 + x2)


def lesser(corner):
    """The corner of which this one is the greater one."""
    check_corner(corner)
    x0, x1, x2, x3 = corner
    # r times a corner is greater(corner) less the corner; 1 / (1 + r) is r - 1.
    return (x1 - x3 - x0, x0 + x2 - x1, x1 + x3 - x2, x2 - x0 - x3)
