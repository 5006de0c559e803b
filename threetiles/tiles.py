"""Tiles: tuples (corner, i, j) of an own corner and two directions."""

from threetiles.corners import is_corner, place, step
from threetiles.errors import BadTile
from threetiles.points import crossed, taken
from threetiles.roots import is_integral


def is_tile(thing):
    """Whether a thing is a tile."""
    if not isinstance(thing, tuple) or len(thing) != 3:
        return False
    corner, i, j = thing
    return is_corner(corner) and is_integral(i) and is_integral(j) and 0 <= i < j <= 3


def check_tile(tile):
    """Raises what is due for what is no tile."""
    if not is_tile(tile):
        raise BadTile(tile)


def wrong_in_row(row, most):
    """The index of the first item of a row that is no tile, -1 for what is no row of at most so many things, or None
    if there is nothing wrong.
    """
    if not isinstance(row, (list, tuple)) or len(row) > most:
        return -1
    for index, tile in enumerate(row):
        if not is_tile(tile):
            return index
    return None


def tile_corners(tile):
    """The ascending tuple of the four corners of a tile."""
    check_tile(tile)
    corner, i, j = tile
    one = step(corner, i, 1)
    other = step(corner, j, 1)
    return tuple(sorted([corner, one, other, step(one, j, 1)]))


def ribbons_of(tile):
    """The ascending tuple of the two ribbons of a tile."""
    check_tile(tile)
    corner, i, j = tile
    return ((i, corner[i]), (j, corner[j]))


def tile_between(corner, one, other):
    """The tile that has a corner and the next ones in two directions."""
    own = corner
    for direction in (one, other):
        # A side that leads back begins at the other one of its ends.
        if direction > 3:
            own = step(own, direction, 1)
    i, j = sorted([one % 4, other % 4])
    return (own, i, j)


def lies_between(number, limit):
    """Whether a Root is from 0 to another one."""
    return number.sign() >= 0 and not limit.less(number)


def covers(tile, point):
    """Whether a point lies in the shape of a tile, rim and all."""
    corner, i, j = tile
    start = place(corner)
    one = taken(place(step(corner, i, 1)), start)
    other = taken(place(step(corner, j, 1)), start)
    way = taken(point, start)
    # The point is start + c * one + d * other, and c and d are to be from 0 to 1.
    # These two areas are c times and d times the area of the tile.
    area = crossed(one, other)
    return lies_between(crossed(way, other), area) and lies_between(crossed(one, way), area)
