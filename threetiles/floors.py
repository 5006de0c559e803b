"""Floors: which corners and tiles they have, and what lies about these."""

from threetiles.corners import check_corner, step
from threetiles.errors import BadFloor, BadPoint, BadSide, BadSize, Barred, NoCorner, NoTile
from threetiles.points import as_roots, is_point
from threetiles.roots import Root, is_integral
from threetiles.tiles import covers, tile_between, tile_corners
from threetiles.windows import corners_about, gauge_of, in_window

TILE_WAYS = ((0, 1), (0, 2), (0, 3), (1, 2), (1, 3), (2, 3))


def check_point(point):
    """Raises what is due for what is no point."""
    if not is_point(point):
        raise BadPoint(point)


def check_size(size, most):
    """Raises what is due for what is no integer from 0 to most."""
    if not is_integral(size) or not 0 <= size <= most:
        raise BadSize(size)


def is_half(top, bottom):
    """Whether top / bottom less 1/2 is whole."""
    return (2 * top - bottom) % (2 * bottom) == 0


def bars_evenly(number):
    """Whether a number bars a shift as x and y do."""
    return is_half(number.top, number.bottom) and 2 * number.root % number.bottom == 0


def bars_oddly(number):
    """Whether a number bars a shift as x + y and y - x do."""
    return number.top % number.bottom == 0 and is_half(number.root, number.bottom)


def barred(shift):
    """The least direction that bars a shift, or None."""
    check_point(shift)
    x, y = as_roots(shift)
    found = (bars_evenly(y), bars_oddly(x + y), bars_evenly(x), bars_oddly(y - x))
    for direction in range(4):
        if found[direction]:
            return direction
    return None


class Floor:
    """The floor of all corners whose stars, less the shift, lie in the window."""

    def __init__(self, shift):
        check_point(shift)
        direction = barred(shift)
        if direction is not None:
            raise Barred(direction)
        self.shift = as_roots(shift)
        self._gauge = gauge_of(self.shift)

    def __eq__(self, other):
        return isinstance(other, Floor) and self.shift == other.shift

    def _ways(self, corner):
        """As sides, for what is known to be a corner of the floor."""
        return tuple([d for d in range(8) if in_window(self._gauge, step(corner, d, 1))])

    def has_corner(self, corner):
        """Whether the floor has a corner."""
        check_corner(corner)
        return in_window(self._gauge, corner)

    def sides(self, corner):
        """The ascending tuple of the directions in which sides leave from a corner."""
        if not self.has_corner(corner):
            raise NoCorner(corner)
        return self._ways(corner)

    def has_tile(self, tile):
        """Whether the floor has a tile."""
        return all([in_window(self._gauge, corner) for corner in tile_corners(tile)])

    def tiles_at(self, corner):
        """The tuple of the tiles about a corner, from that behind its first side on."""
        ways = self.sides(corner)
        behind = ways[1:] + ways[:1]
        return tuple([tile_between(corner, one, other) for one, other in zip(ways, behind)])

    def across(self, tile, side):
        """The other tile at a side of a tile."""
        if not self.has_tile(tile):
            raise NoTile(tile)
        if not is_integral(side) or not 0 <= side <= 3:
            raise BadSide(side)
        corner, i, j = tile
        starts = (corner, step(corner, i, 1), step(corner, j, 1), corner)
        directions = (i, j, i, j)
        start = starts[side]
        at = self._ways(start).index(directions[side])
        about = self.tiles_at(start)
        # Of the two tiles at the side one is behind it and one ahead of it, going round.
        if about[at] == tile:
            return about[at - 1]
        return about[at]

    def near(self, point, size):
        """The ascending list of the corners whose places are at most size away from a point."""
        check_point(point)
        check_size(size, 12)
        edge = Root(1, 1, 2)
        lows = (self.shift[0] - edge, self.shift[1] - edge)
        highs = (self.shift[0] + edge, self.shift[1] + edge)
        found = corners_about(as_roots(point), size, lows, highs)
        return sorted([corner for corner, square in found if in_window(self._gauge, corner)])

    def tiles_over(self, point):
        """The ascending list of the tiles in whose shape, rim and all, a point lies."""
        check_point(point)
        found = []
        # No two corners of a tile are 2 or more apart.
        for corner in self.near(point, 2):
            for i, j in TILE_WAYS:
                tile = (corner, i, j)
                if self.has_tile(tile) and covers(tile, point):
                    found.append(tile)
        return found

    def around(self, corner, steps):
        """The list of the ascending lists of the corners that so many steps reach, and no fewer."""
        if not self.has_corner(corner):
            raise NoCorner(corner)
        check_size(steps, 8)
        seen = {corner: True}
        last = [corner]
        rings = [last]
        for _ in range(steps):
            fresh = []
            for one in last:
                for direction in self._ways(one):
                    other = step(one, direction, 1)
                    if other not in seen:
                        seen[other] = True
                        fresh.append(other)
            last = sorted(fresh)
            rings.append(last)
        return rings


def check_floor(floor):
    """Raises what is due for what is no Floor."""
    if not isinstance(floor, Floor):
        raise BadFloor(floor)
