"""Lots of bounded pieces, and what they leave of one; the window, and the lozenges of tiles."""

from threetiles.bounds import toward
from threetiles.corners import ORIGIN, star, step
from threetiles.errors import BadLot
from threetiles.pieces import Piece
from threetiles.points import added, scaled
from threetiles.roots import Root
from threetiles.tiles import check_tile

# Callers pass at most 12 pieces, but lots that were returned may be passed on.
MOST_PIECES = 400

# The star of a step in direction k runs along the lines of the bounds with the vectors of these.
ALONG = (2, 1, 0, 3)


def is_bounded_piece(thing):
    """Whether a thing is a bounded piece."""
    return isinstance(thing, Piece) and thing.is_bounded()


def check_lot(lot):
    """Raises what is due for what is no row of at most 400 bounded pieces."""
    if not isinstance(lot, (list, tuple)) or len(lot) > MOST_PIECES:
        raise BadLot(-1)
    for index, piece in enumerate(lot):
        if not is_bounded_piece(piece):
            raise BadLot(index)


def are_apart(one, other):
    """Whether a bounded piece with points has none in common with another bounded one."""
    if other.is_empty():
        return True
    # Of the lines that part two pieces one runs along a side of one of them.
    for d, number in enumerate(one.bounds):
        if not (-other.bounds[(d + 4) % 8]).less(number):
            return True
    return False


def sides_of(piece):
    """The bounds of a bounded piece with points that belong to its sides, ascending by direction."""
    found = []
    for d, number in enumerate(piece.bounds):
        # The two next vectors sum to this one, if it is odd, and otherwise to twice this one; where a bound meets
        # the rim in a mere corner, so do the numbers.
        times = 2 - d % 2
        if (number * times).less(piece.bounds[d - 1] + piece.bounds[(d + 1) % 8]):
            found.append((d, number))
    return found


def without(piece, other):
    """Pieces that have what another piece leaves of a bounded one with points, but for points on lines."""
    if are_apart(piece, other):
        return [piece]
    found = []
    rest = piece
    for d, number in sides_of(other):
        if number.less(rest.bounds[d]):
            rest, beyond = rest.parted((d, number))
            found.append(beyond)
    return found


def left_by(pieces, lot):
    """As left_of, for a list of pieces with points, no two of which have a common one."""
    left = pieces
    for other in lot:
        parts = []
        for piece in left:
            parts.extend(without(piece, other))
        left = parts
    return left


def left_of(piece, lot):
    """A list of pieces that have what a lot leaves of a bounded piece, but for points on finitely many lines."""
    if not is_bounded_piece(piece):
        raise BadLot(-2)
    check_lot(lot)
    return left_by([] if piece.is_empty() else [piece], lot)


def covered(piece, lot):
    """Whether a lot leaves nothing of a bounded piece, but for points on finitely many lines."""
    return len(left_of(piece, lot)) == 0


def window():
    """The window."""
    return Piece([(d, Root(1 + d % 2, 1, 2)) for d in range(8)])


def tile_bounds(tile):
    """The tuple of the four bounds of the sides of a tile's lozenge, ascending by direction."""
    check_tile(tile)
    corner, i, j = tile
    # The four stars have the same middle as those of the own corner and of the one across from it.
    middle = scaled(Root(1, 0, 2), added(star(corner), star(step(step(corner, i, 1), j, 1))))
    one, other = [k for k in range(4) if k != i and k != j]
    found = []
    for along, across in ((one, other), (other, one)):
        d = ALONG[along]
        half = toward(d, star(step(ORIGIN, across, 1))) * Root(1, 0, 2)
        if half.sign() < 0:
            half = -half
        number = toward(d, middle)
        found.append((d, half + number))
        found.append((d + 4, half - number))
    return tuple(sorted(found))


def lozenge(tile):
    """The piece of the shifts of the floors that have a tile, together with the barred ones between them."""
    return Piece(tile_bounds(tile))
