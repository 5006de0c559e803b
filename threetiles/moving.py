"""Floors moved, turned and mirrored, and the tiles in which two floors differ."""

from threetiles.corners import corner_with, place, star
from threetiles.errors import BadSize
from threetiles.floors import TILE_WAYS, Floor, check_floor
from threetiles.points import added, square, taken
from threetiles.roots import Root, is_integral


def moved_by(one, other):
    """The corner by which another floor is a floor moved, or None."""
    check_floor(one)
    check_floor(other)
    return corner_with(taken(other.shift, one.shift))


def first_parting(one, other, corner):
    """The least tile with an own corner that just one of two floors has, or None."""
    for i, j in TILE_WAYS:
        tile = (corner, i, j)
        if one.has_tile(tile) != other.has_tile(tile):
            return tile
    return None


def parting_tile(one, other, point, most):
    """The tile with the nearest own corner that just one of two floors has, of these the least, or None."""
    check_floor(one)
    check_floor(other)
    nearest = None
    least = None
    # Corners come ascending, so of those that are equally near the first one stays.
    for corner in sorted(set(one.near(point, most) + other.near(point, most))):
        far = square(taken(place(corner), point))
        if nearest is None or far.less(least):
            tile = first_parting(one, other, corner)
            if tile is not None:
                nearest = tile
                least = far
    return nearest


def floor_moved(floor, v):
    """The floor that has just the corners of a floor plus a corner."""
    check_floor(floor)
    return Floor(added(floor.shift, star(v)))


def turned_shift(shift, eighths):
    """A shift turned about (0, 0) by so many eighths of a round, from 0 on."""
    half = Root(0, 1, 2)
    x, y = shift
    for _ in range(eighths):
        x, y = (x - y) * half, (x + y) * half
    return (x, y)


def floor_turned(floor, eighths):
    """The floor that has just the corners of a floor turned by so many eighths of a round."""
    check_floor(floor)
    if not is_integral(eighths):
        raise BadSize(eighths)
    # Stars turn by three eighths where places turn by one.
    return Floor(turned_shift(floor.shift, 3 * eighths % 8))


def floor_mirrored(floor):
    """The floor that has just the corners of a floor mirrored."""
    check_floor(floor)
    x, y = floor.shift
    return Floor((x, -y))


def symmetries(floor):
    """The ascending list of all (mirror, eighths, v) that lead a floor to itself."""
    check_floor(floor)
    found = []
    for mirror, start in ((0, floor), (1, floor_mirrored(floor))):
        for eighths in range(8):
            v = moved_by(floor_turned(start, eighths), floor)
            if v is not None:
                found.append((mirror, eighths, v))
    return found
