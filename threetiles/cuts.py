"""Lots of pieces cut in two, into what bounds let and what they leave, and joined again, but for points on lines."""

from threetiles.corners import star, step
from threetiles.lots import window
from threetiles.pieces import Piece, rows_of
from threetiles.points import scaled
from threetiles.roots import Root
from threetiles.words import word_by


def cut(piece, bounds):
    """The lists of the pieces of a piece with points that have what a row of bounds lets, and what it does not let."""
    told = word_by(piece, bounds)
    if told == "sure":
        return ([piece], [])
    if told == "never":
        # Cut into parts it would have the same points, but be more pieces.
        return ([], [piece])
    rest = piece
    outside = []
    for bound in bounds:
        rest, beyond = rest.parted(bound)
        if not beyond.is_empty():
            outside.append(beyond)
    return ([rest], outside)


def cut_lot(lot, bounds):
    """As cut, for all pieces of a lot."""
    inside = []
    outside = []
    for piece in lot:
        within, beyond = cut(piece, bounds)
        inside.extend(within)
        outside.extend(beyond)
    return (inside, outside)


def cut_in_all(keyed, bounds, more):
    """For each (key, lot) of a list, the parts of the lot with points: (key + more, what a row of bounds lets), and
    (key, what it does not let).
    """
    found = []
    for key, lot in keyed:
        inside, outside = cut_lot(lot, bounds)
        if len(inside) > 0:
            found.append((key + more, inside))
        if len(outside) > 0:
            found.append((key, outside))
    return found


def sight(way):
    """The bounds that let the points, stars of corners less the shift, at which there is a corner a way farther."""
    return rows_of(window().led(scaled(-1, star(way))))


def lots_by_kind(lot, way):
    """A list of (kind, lot): the parts of a lot of points at which the corner a way farther is of unlike kinds."""
    found = [((), lot)]
    for d in range(8):
        found = cut_in_all(found, sight(step(way, d, 1)), (d,))
    return found


def are_beside(one, other):
    """Whether a line that parts two bounded pieces with points is a rim of both."""
    for d, number in enumerate(one.bounds):
        if number == -other.bounds[(d + 4) % 8]:
            return True
    return False


def joined(one, other):
    """The piece of just the points of two bounded ones with points, none of them common, or None if there is none."""
    if not are_beside(one, other):
        return None
    bounds = []
    for d, number in enumerate(one.bounds):
        far = other.bounds[d]
        bounds.append((d, far if number.less(far) else number))
    whole = Piece(bounds)
    return whole if whole.area() == one.area() + other.area() else None


def joined_lot(lot):
    """A lot with the same points, but of fewer pieces where some make up one; no two have common points."""
    found = []
    for piece in lot:
        at = 0
        while at < len(found):
            whole = joined(piece, found[at])
            if whole is None:
                at = at + 1
            else:
                # What was passed by may go together with the greater piece.
                piece = whole
                found.pop(at)
                at = 0
        found.append(piece)
    return found


def lots_by_key(keyed):
    """The dict from the keys of a list of (key, lot), which may come again, to all pieces of their lots."""
    found = {}
    for key, lot in keyed:
        if key not in found:
            found[key] = []
        found[key].extend(lot)
    return found


def total_area(lot):
    """The sum of the areas of the pieces of a lot."""
    return sum([piece.area() for piece in lot], start=Root(0, 0, 1))


def share(area):
    """What share of the window an area is."""
    return area.over(window().area())
