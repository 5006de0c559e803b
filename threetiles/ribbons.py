"""Ribbons: the rows of tiles in which floors are woven, where they cross, and on which side of others."""

from threetiles.bars import press
from threetiles.bounds import opposite, toward
from threetiles.corners import ORIGIN, star, step
from threetiles.errors import BadRibbon, BadSize, NoTile, SameWay
from threetiles.floors import check_floor
from threetiles.heaps import held_piece, row_bounds
from threetiles.lots import ALONG
from threetiles.pieces import Piece, rows_of
from threetiles.points import added, scaled
from threetiles.roots import Root, is_integral
from threetiles.tiles import ribbons_of

MOST_ALONG = 400


def is_ribbon(thing):
    """Whether a thing is a ribbon."""
    if not isinstance(thing, tuple) or len(thing) != 2:
        return False
    return is_integral(thing[0]) and 0 <= thing[0] <= 3 and is_integral(thing[1])


def check_ribbons(ribbons):
    """Raises what is due for the first thing in a row that is no ribbon."""
    for ribbon in ribbons:
        if not is_ribbon(ribbon):
            raise BadRibbon(ribbon)


def check_ways(ribbons):
    """Raises what is due for ribbons of which two have the same direction."""
    ways = [k for k, number in ribbons]
    if len(set(ways)) < len(ways):
        raise SameWay()


def between_lines(one, other):
    """The middle of the stars of the corners of the tile of two ribbons with a 0 at both other places."""
    start = ORIGIN
    far = ORIGIN
    for k, number in (one, other):
        start = step(start, k, number)
        far = step(far, k, number + 1)
    return scaled(Root(1, 0, 2), added(star(start), star(far)))


def side_at(one, other, k):
    """A tuple (d, far, wide): in a floor with a shift s the tile of two ribbons has at the place k the integer
    nearest to (toward(d, s) - far) / wide, and wide is above 0.
    """
    last = 6 - one[0] - other[0] - k
    # By this vector steps in the last direction do not count.
    d = ALONG[last]
    wide = toward(d, star(step(ORIGIN, k, 1)))
    if wide.sign() < 0:
        d = d + 4
        wide = -wide
    return (d, toward(d, between_lines(one, other)), wide)


def crossed_at(shift, one, other):
    """The tile of two ribbons of unlike directions in the floor with a shift."""
    corner = ORIGIN
    for k, number in (one, other):
        corner = step(corner, k, number)
    for k in range(4):
        if k != one[0] and k != other[0]:
            d, far, wide = side_at(one, other, k)
            corner = step(corner, k, (toward(d, shift) - far).over(wide).nearest())
    i, j = sorted([one[0], other[0]])
    return (corner, i, j)


def crossing(floor, one, other):
    """The tile of a floor that two ribbons have."""
    check_floor(floor)
    check_ribbons((one, other))
    check_ways((one, other))
    return crossed_at(floor.shift, one, other)


def check_on(floor, ribbon, tile):
    """Raises what is due for what is no tile that a floor's ribbon has."""
    if ribbon not in ribbons_of(tile) or not floor.has_tile(tile):
        raise NoTile(tile)


def forth_side(ribbon, tile):
    """The number of the side at which the next tile forth lies on a ribbon."""
    corner, i, j = tile
    # The direction j is less than half a round ahead of i, so its steps lead forth on a ribbon of i.
    return 2 if ribbon[0] == i else 3


def along(floor, ribbon, tile, many):
    """The tile so many tiles farther forth on a ribbon."""
    check_floor(floor)
    check_ribbons((ribbon,))
    check_on(floor, ribbon, tile)
    if not is_integral(many) or not -MOST_ALONG <= many <= MOST_ALONG:
        raise BadSize(many)
    here = tile
    for _ in range(abs(many)):
        side = forth_side(ribbon, here)
        if many < 0:
            # The side across is two numbers away.
            side = (side + 2) % 4
        here = floor.across(here, side)
    return here


def way_along(ribbon, tile):
    """An integer that is by one greater for each next tile forth on a ribbon."""
    corner, i, j = tile
    k = ribbon[0]
    # Forth on the low side the numbers behind the place k rise, and those ahead of it fall, one for each tile.
    way = sum(corner[k + 1:]) - sum(corner[:k])
    # The tile begins at its own corner, or, if its other direction leads back, one step from it.
    return way if k == i else way - 1


def far_along(floor, ribbon, one, other):
    """How many tiles forth on a ribbon a tile lies behind another one."""
    check_floor(floor)
    check_ribbons((ribbon,))
    check_on(floor, ribbon, one)
    check_on(floor, ribbon, other)
    return way_along(ribbon, other) - way_along(ribbon, one)


def side_of(floor, one, other, third):
    """The side of a third ribbon, "low" or "high", on which two ribbons cross in a floor."""
    check_floor(floor)
    bound = side_bound(one, other, third)
    return "low" if toward(bound[0], floor.shift).less(bound[1]) else "high"


def side_bound(one, other, third):
    """The bound that lets a shift if in its floor two ribbons cross on the low side of a third one."""
    check_ribbons((one, other, third))
    check_ways((one, other, third))
    d, far, wide = side_at(one, other, third[0])
    return (d, far + wide * Root(2 * third[1] + 1, 0, 2))


def side_word(heap, one, other, third):
    """On which side of a third ribbon two ribbons cross in the floors with a heap, with a paper that shows it."""
    piece = held_piece(heap)
    bound = side_bound(one, other, third)
    rows = row_bounds(heap)
    beyond = opposite(bound)
    low = press(rows, bound)
    if low is not None:
        return ("low", low)
    high = press(rows, beyond)
    if high is not None:
        return ("high", high)
    shifts = [Piece(rows_of(piece) + [part]).let_point() for part in (bound, beyond)]
    return ("open", shifts[0], shifts[1])
