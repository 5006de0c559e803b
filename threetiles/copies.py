"""Copies of a heap in floors, and how far off there always is one."""

from threetiles.corners import check_corner, is_corner, place, star
from threetiles.floors import check_floor, check_size
from threetiles.heaps import check_heap, check_tiled, tiled_piece
from threetiles.lots import left_by, window
from threetiles.points import scaled, square, taken
from threetiles.words import corners_over

MOST_CORNERS = 400


def plus(one, other):
    """The sum of two corners."""
    return tuple([part + more for part, more in zip(one, other)])


def minus(one, other):
    """The difference of two corners."""
    return tuple([part - less for part, less in zip(one, other)])


def moved_tiles(heap, v):
    """As heap_moved, for what is known to be a heap and a corner."""
    return tuple([(plus(corner, v), i, j) for corner, i, j in heap])


def heap_moved(heap, v):
    """The tuple of the tiles of a heap, moved by a corner."""
    check_heap(heap)
    check_corner(v)
    return moved_tiles(heap, v)


def has_all(floor, tiles):
    """Whether a floor has all tiles of a row."""
    for tile in tiles:
        if not floor.has_tile(tile):
            return False
    return True


def copies(floor, heap, point, size):
    """The ascending list of the copies of a heap in a floor with their first corners near a point."""
    check_floor(floor)
    check_heap(heap)
    check_tiled(heap)
    first = heap[0][0]
    found = []
    # The first corner of a copy is a corner of the floor; these come ascending, and so do their differences.
    for corner in floor.near(point, size):
        v = minus(corner, first)
        if has_all(floor, moved_tiles(heap, v)):
            found.append(v)
    return found


def nearest_copy(floor, heap, point, most):
    """The copy of a heap in a floor with the nearest first corner, of these the least, or None."""
    nearest = None
    least = None
    for v in copies(floor, heap, point, most):
        far = square(taken(place(plus(heap[0][0], v)), point))
        if nearest is None or far.less(least):
            nearest = v
            least = far
    return nearest


def copy_here(heap, piece):
    """The piece of the points, stars of corners less the shift, at which a copy has its first corner just there."""
    return piece.grown(-1).led(star(heap[0][0]))


def copy_there(here, corner):
    """As copy_here, for a copy with its first corner a way farther."""
    return here.led(scaled(-1, star(corner)))


def reach(heap, most):
    """How far off there always is a copy of a heap, if it is at most so far, or a floor in which there is none."""
    here = copy_here(heap, tiled_piece(heap))
    check_size(most, 5)
    ways = corners_over(here, (0, 0), most)
    left = [window()]
    lot = []
    for size in range(most + 1):
        for corner, far in ways:
            # Those that were met already, at a lesser size, leave all as it is.
            if (far - size * size).sign() <= 0:
                parts = left_by(left, [copy_there(here, corner)])
                if parts != left:
                    lot.append(corner)
                left = parts
        if len(left) == 0:
            return ("within", size, tuple(lot))
    return ("beyond", scaled(-1, left[0].let_point()))


def is_reach_lot(heap, thing):
    """Whether a thing is a tuple of corners, one of which leads to a copy of a heap from each corner of each floor."""
    here = copy_here(heap, tiled_piece(heap))
    if not isinstance(thing, tuple) or len(thing) > MOST_CORNERS or not all([is_corner(corner) for corner in thing]):
        return False
    return len(left_by([window()], [copy_there(here, corner) for corner in thing])) == 0
