"""Papers about rows of bounds: bars, that no point is let by all, and presses, that one bound needs no more."""

from threetiles.bounds import (
    VECTORS, barring_parts, check_bounds, is_bound, least_indexes, least_numbers, over_common, pair_sum, presses_on)
from threetiles.errors import BadBounds, EmptyPiece
from threetiles.roots import Root, as_root, is_integral


def check_bound(bound):
    """Raises what is due for what is no bound."""
    if not is_bound(bound):
        raise BadBounds(-2)


def told_by(parts, indexes):
    """The ascending tuple of (index, weight) that tells parts of directions by the indexes of bounds."""
    return tuple(sorted([(indexes[d], weight) for d, weight in parts]))


def bars(bounds):
    """Bars of a row of bounds, or None."""
    check_bounds(bounds)
    parts = barring_parts(over_common(least_numbers(bounds))[1])
    if parts is None:
        return None
    return told_by(parts, least_indexes(bounds))


def press(bounds, bound):
    """A press of a row of bounds on a bound, or None."""
    check_bounds(bounds)
    check_bound(bound)
    bottom, pairs = over_common(least_numbers(bounds))
    if barring_parts(pairs) is not None:
        raise EmptyPiece()
    d, number = bound
    for weight, parts in presses_on(d):
        total = pair_sum(parts, pairs)
        if total is None:
            continue
        if not (as_root(number) * weight).less(Root(total[0], total[1], bottom)):
            return (weight, told_by(parts, least_indexes(bounds)))
    return None


def is_rest(thing, many):
    """Whether a thing is a tuple of (index, weight), with ascending indexes below many, weights from 1 on."""
    if not isinstance(thing, tuple):
        return False
    last = -1
    for part in thing:
        if not isinstance(part, tuple) or len(part) != 2:
            return False
        index, weight = part
        if not is_integral(index) or not last < index < many or not is_integral(weight) or weight < 1:
            return False
        last = index
    return True


def rest_sum(bounds, rest):
    """The tuple (x, y, number) of the sums of vectors and of numbers, each times its weight."""
    x = 0
    y = 0
    total = Root(0, 0, 1)
    for index, weight in rest:
        d, number = bounds[index]
        x = x + weight * VECTORS[d][0]
        y = y + weight * VECTORS[d][1]
        total = total + number * weight
    return (x, y, total)


def is_bars(bounds, thing):
    """Whether a thing is bars of a row of bounds."""
    check_bounds(bounds)
    if not is_rest(thing, len(bounds)) or not 2 <= len(thing) <= 3:
        return False
    x, y, total = rest_sum(bounds, thing)
    return x == 0 and y == 0 and total.sign() <= 0


def is_press(bounds, bound, thing):
    """Whether a thing is a press of a row of bounds on a bound."""
    check_bounds(bounds)
    check_bound(bound)
    if not isinstance(thing, tuple) or len(thing) != 2:
        return False
    weight, rest = thing
    if not is_integral(weight) or weight < 1 or not is_rest(rest, len(bounds)) or not 1 <= len(rest) <= 2:
        return False
    x, y, total = rest_sum(bounds, rest)
    d, number = bound
    if x != VECTORS[d][0] * weight or y != VECTORS[d][1] * weight:
        return False
    return not (as_root(number) * weight).less(total)
