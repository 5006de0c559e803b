"""Which corners have their stars in the window, reckoned with integers alone, and which have them in a box."""

from math import lcm

from threetiles.corners import joined
from threetiles.roots import Root, surd_sign


def gauge_of(shift):
    """The integers (c, x, u, y, v) of a shift ((x + u * r) / c, (y + v * r) / c)."""
    x, y = shift
    bottom = lcm(x.bottom, y.bottom)
    by = bottom // x.bottom
    up = bottom // y.bottom
    return (bottom, x.top * by, x.root * by, y.top * up, y.root * up)


def beside(top, root, edge_top, edge_root):
    """Whether top + root * r lies between an edge and the negative of it, on neither of them."""
    if surd_sign(edge_top - top, edge_root - root) <= 0:
        return False
    return surd_sign(edge_top + top, edge_root + root) > 0


def in_window(gauge, corner):
    """Whether the star of a corner, less the shift of a gauge, lies in the window."""
    bottom, x_top, x_root, y_top, y_root = gauge
    x0, x1, x2, x3 = corner
    # All numbers are told 2 * bottom times as great, so that there are no fractions.
    top = 2 * (bottom * x0 - x_top)
    root = bottom * (x3 - x1) - 2 * x_root
    if not beside(top, root, bottom, bottom):
        return False
    up = -2 * (bottom * x2 + y_top)
    up_root = bottom * (x1 + x3) - 2 * y_root
    if not beside(up, up_root, bottom, bottom):
        return False
    if not beside(top + up, root + up_root, 2 * bottom, bottom):
        return False
    return beside(top - up, root - up_root, 2 * bottom, bottom)


def stripe(middle, size, low, high):
    """Tuples (whole, halves, square), in all of which, with h for half of r, whole + halves * h is at most
    size away from middle, and whole - halves * h from low to high; square is that of how far away the former is.
    """
    # The two numbers differ by halves * r, so halves cannot lie beyond these.
    least = -((high + size - middle) * Root(0, 1, 2)).whole()
    most = ((middle + size - low) * Root(0, 1, 2)).whole()
    found = []
    for halves in range(least, most + 1):
        outer = middle - Root(0, halves, 2)
        inner = Root(0, halves, 2)
        first = -min((size - outer).whole(), (-low - inner).whole())
        last = min((size + outer).whole(), (high + inner).whole())
        for whole in range(first, last + 1):
            off = outer - whole
            found.append((whole, halves, off * off))
    return found


def corners_about(point, size, lows, highs):
    """Tuples (corner, square), of all corners whose places are at most size away from a point, and the numbers of
    whose stars are from lows to highs, x and y; square is that of the distance. All these numbers are Roots.
    """
    columns = stripe(point[0], size, lows[0], highs[0])
    # The star of a corner has -x2 where its place has x2, so the ends are turned over, too.
    rows = stripe(point[1], size, -highs[1], -lows[1])
    limit = Root(size * size, 0, 1)
    found = []
    for x0, difference, across in columns:
        for x2, both, along in rows:
            corner = joined(x0, difference, x2, both)
            if corner is None:
                continue
            square = across + along
            if not limit.less(square):
                found.append((corner, square))
    return found
