"""Greater and lesser floors: how floors are led up and down."""

from threetiles.corners import check_corner, greater, is_direction, lesser, step
from threetiles.errors import BadDirection, BadPiece, BadSize, NoCorner, NoSide
from threetiles.floors import Floor, check_floor
from threetiles.pieces import Piece
from threetiles.points import scaled
from threetiles.roots import Root, is_integral
from threetiles.tiles import tile_between

MOST_LED = 40


def check_many(many):
    """Raises what is due for what is no number of times to be led up."""
    if not is_integral(many) or not -MOST_LED <= many <= MOST_LED:
        raise BadSize(many)


def factor(many):
    """By what the shift of a floor is multiplied when it is led up so many times."""
    by = Root(-1, -1, 1) if many > 0 else Root(1, -1, 1)
    times = Root(1, 0, 1)
    for _ in range(abs(many)):
        times = times * by
    return times


def led(floor, many):
    """As led_up, for what is known to be a number of times."""
    check_floor(floor)
    return Floor(scaled(factor(many), floor.shift))


def greater_floor(floor):
    """The greater floor of a floor."""
    return led(floor, 1)


def lesser_floor(floor):
    """The floor of which a floor is the greater one."""
    return led(floor, -1)


def led_up(floor, many):
    """The greater floor of the greater floor, so many times, below 0 lesser ones."""
    check_floor(floor)
    check_many(many)
    return led(floor, many)


def lowered(piece, many):
    """The piece of the shifts of all floors that, led up so many times, have their shifts in a piece."""
    if not isinstance(piece, Piece):
        raise BadPiece(piece)
    check_many(many)
    return piece.grown(factor(-many))


def stands(floor, corner):
    """The corner of the greater floor that stands at a corner of a floor, or None."""
    above = greater_floor(floor)
    if not floor.has_corner(corner):
        raise NoCorner(corner)
    small = lesser(corner)
    return small if above.has_corner(small) else None


def check_side(floor, corner, direction):
    """Raises what is due for what is no corner of a floor, or no direction in which a side leaves from it."""
    check_corner(corner)
    if not is_direction(direction):
        raise BadDirection(direction)
    if direction not in floor.sides(corner):
        raise NoSide(direction)


def seam(floor, corner, direction):
    """Whether a side or a square of a floor comes first along a side of the greater floor, with the square."""
    check_side(greater_floor(floor), corner, direction)
    start = greater(corner)
    # The greater corner one step farther is the sum of the steps in this direction and in the two next to it.
    left = (direction + 1) % 8
    right = (direction + 7) % 8
    behind = tile_between(step(start, direction, 1), right, left)
    if floor.has_tile(behind):
        return ("side", behind)
    return ("square", tile_between(start, right, left))
