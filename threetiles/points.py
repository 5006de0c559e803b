"""Points of a plane: tuples (x, y) of numbers."""

from threetiles.roots import as_root, is_number


def is_point(thing):
    """Whether a thing is a point."""
    return isinstance(thing, tuple) and len(thing) == 2 and is_number(thing[0]) and is_number(thing[1])


def as_roots(point):
    """The same point, with Roots."""
    return (as_root(point[0]), as_root(point[1]))


def added(one, other):
    """The sum of two points."""
    return (as_root(one[0]) + other[0], as_root(one[1]) + other[1])


def taken(one, other):
    """The first point less the second one."""
    return (as_root(one[0]) - other[0], as_root(one[1]) - other[1])


def scaled(number, point):
    """A point, each of its numbers multiplied by a number."""
    return (as_root(point[0]) * number, as_root(point[1]) * number)


def square(point):
    """The square of a point's distance from (0, 0)."""
    x, y = as_roots(point)
    return x * x + y * y


def crossed(one, other):
    """The area of what two points span from (0, 0), below 0 if the second lies to the right."""
    return as_root(one[0]) * other[1] - as_root(one[1]) * other[0]
