"""Kinds of corners, and how often these, surroundings, and heaps come."""

from threetiles.corners import ORIGIN, is_direction, step
from threetiles.cuts import lots_by_kind, share, total_area
from threetiles.errors import BadKind, BadSize
from threetiles.heaps import heap_piece, tiled_piece
from threetiles.lots import lozenge, window
from threetiles.roots import Root, is_integral


def check_kind(kind):
    """Raises what is due for what is no ascending tuple of unlike directions."""
    if not isinstance(kind, tuple) or not all([is_direction(d) for d in kind]) or list(kind) != sorted(set(kind)):
        raise BadKind(kind)


def kind_lots():
    """A list of (kind, lot): the parts of the window of points at which corners are of unlike kinds."""
    return lots_by_kind([window()], ORIGIN)


def kinds():
    """The ascending list of all (kind, share)."""
    # No kind comes twice, so the shares are not asked for their order.
    return sorted([(kind, share(total_area(lot))) for kind, lot in kind_lots()])


def kind_lot(kind):
    """A list of pieces that have the points of the window at which corners are of a kind."""
    check_kind(kind)
    for other, lot in kind_lots():
        if other == kind:
            return lot
    return []


def surrounding(kind):
    """The surrounding by one step of a corner of a kind."""
    return tuple(sorted([ORIGIN] + [step(ORIGIN, d, 1) for d in kind]))


def surroundings(steps):
    """The ascending list of all (surrounding, share) by no step or by one."""
    if not is_integral(steps) or not 0 <= steps <= 1:
        raise BadSize(steps)
    if steps == 0:
        return [(surrounding(()), Root(1, 0, 1))]
    # No two kinds have one surrounding, so the shares are not asked for their order.
    return sorted([(surrounding(kind), part) for kind, part in kinds()])


def share_of(heap):
    """The share of the corners by which a heap, moved, lies in a floor."""
    # The star of a corner less the shift is to lie in the window, and so is the shift less the star.
    return share(heap_piece(heap).met(window()).area())


def share_with(heap, tile):
    """The share, of the floors with a heap, of those that have a tile."""
    piece = tiled_piece(heap)
    return piece.met(lozenge(tile)).area().over(piece.area())
