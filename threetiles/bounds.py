"""Bounds, and the ways in which some of them together bar all points or press on one more."""

from math import lcm

from threetiles.errors import BadBounds
from threetiles.roots import Root, as_root, is_integral, is_number, surd_sign

VECTORS = ((1, 0), (1, 1), (0, 1), (-1, 1), (-1, 0), (-1, -1), (0, -1), (1, -1))

MOST_BOUNDS = 400

# PARTS are tuples of (d, weight). These are all sets of two and three vectors that, each times its
# weight, sum to (0, 0), but for those with such a set of fewer within them.
BARRING = (
    ((0, 1), (4, 1)), ((1, 1), (5, 1)), ((2, 1), (6, 1)), ((3, 1), (7, 1)),
    ((0, 1), (3, 1), (6, 1)), ((1, 1), (4, 2), (7, 1)), ((0, 1), (2, 1), (5, 1)), ((1, 1), (3, 1), (6, 2)),
    ((2, 1), (4, 1), (7, 1)), ((0, 2), (3, 1), (5, 1)), ((1, 1), (4, 1), (6, 1)), ((2, 2), (5, 1), (7, 1)),
)

# Tuples (weight, parts): parts that sum to the vector u_0, or u_1, times the weight. By a quarter of a
# round farther the same holds, so these do for all even, and for all odd directions.
EVEN_PRESSES = ((1, ((0, 1),)), (2, ((1, 1), (7, 1))), (1, ((2, 1), (7, 1))), (1, ((1, 1), (6, 1))))
ODD_PRESSES = ((1, ((1, 1),)), (1, ((0, 1), (2, 1))), (1, ((0, 2), (3, 1))), (1, ((2, 2), (7, 1))))


def is_bound(thing):
    """Whether a thing is a bound."""
    if not isinstance(thing, tuple) or len(thing) != 2:
        return False
    return is_integral(thing[0]) and 0 <= thing[0] <= 7 and is_number(thing[1])


def check_bounds(bounds):
    """Raises what is due for what is no row of at most 400 bounds."""
    if not isinstance(bounds, (list, tuple)) or len(bounds) > MOST_BOUNDS:
        raise BadBounds(-1)
    for index, bound in enumerate(bounds):
        if not is_bound(bound):
            raise BadBounds(index)


def toward(d, point):
    """The sum of the numbers of a point, each times its number of u_d."""
    x, y = VECTORS[d]
    return as_root(point[0]) * x + as_root(point[1]) * y


def opposite(bound):
    """The bound that lets what lies beyond a bound."""
    d, number = bound
    return ((d + 4) % 8, -number)


def least_indexes(bounds):
    """For each direction the index of the first bound of it with the least number, or None."""
    found = [None] * 8
    for index, (d, number) in enumerate(bounds):
        if found[d] is None or as_root(number).less(bounds[found[d]][1]):
            found[d] = index
    return found


def least_numbers(bounds):
    """For each direction the least number of its bounds, as a Root, or None."""
    return [None if index is None else as_root(bounds[index][1]) for index in least_indexes(bounds)]


def over_common(numbers):
    """A bottom, and for each Root the pair (top, root) with which it is told over it; None stays."""
    bottom = 1
    for number in numbers:
        if number is not None:
            bottom = lcm(bottom, number.bottom)
    pairs = []
    for number in numbers:
        if number is None:
            pairs.append(None)
        else:
            by = bottom // number.bottom
            pairs.append((number.top * by, number.root * by))
    return (bottom, pairs)


def presses_on(d):
    """All tuples (weight, parts), parts of one or two vectors that sum to u_d times the weight."""
    presses = ODD_PRESSES if d % 2 == 1 else EVEN_PRESSES
    by = d - d % 2
    return [(weight, [((way + by) % 8, times) for way, times in parts]) for weight, parts in presses]


def pair_sum(parts, pairs):
    """The pair of the sum of the numbers of parts, each times its weight, or None where there is none."""
    top = 0
    root = 0
    for d, weight in parts:
        if pairs[d] is None:
            return None
        top = top + weight * pairs[d][0]
        root = root + weight * pairs[d][1]
    return (top, root)


def barring_parts(pairs):
    """Parts that together bar all points, or None."""
    for parts in BARRING:
        total = pair_sum(parts, pairs)
        if total is not None and surd_sign(total[0], total[1]) <= 0:
            return parts
    return None


def least_pair(d, pairs):
    """Twice the least number that the bounds with these pairs imply for a direction, as a pair, or None."""
    least = None
    for weight, parts in presses_on(d):
        total = pair_sum(parts, pairs)
        if total is None:
            continue
        # Weights are 1 or 2, so that twice the implied number needs no fraction.
        top = total[0] * (2 // weight)
        root = total[1] * (2 // weight)
        if least is None or surd_sign(top - least[0], root - least[1]) < 0:
            least = (top, root)
    return least


def tightened(numbers):
    """The tuple of the eight least numbers that the bounds with these numbers imply, None where there is
    none, or () if these bounds let no points.
    """
    bottom, pairs = over_common(numbers)
    if barring_parts(pairs) is not None:
        return ()
    found = []
    for d in range(8):
        least = least_pair(d, pairs)
        found.append(None if least is None else Root(least[0], least[1], 2 * bottom))
    return tuple(found)
