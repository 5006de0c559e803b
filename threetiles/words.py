"""Words: whether the floors with a heap have a tile never, surely, or some of them; and which tiles are open."""

from threetiles.bars import bars, is_bars, is_press, press
from threetiles.bounds import barring_parts, least_numbers, opposite, over_common
from threetiles.errors import EmptyPiece
from threetiles.floors import TILE_WAYS, check_point, check_size
from threetiles.heaps import held_piece, is_paper, is_shift_in, row_bounds, tiled_piece
from threetiles.lots import tile_bounds
from threetiles.pieces import Piece, rows_of
from threetiles.points import as_roots
from threetiles.roots import Root
from threetiles.windows import corners_about


def lets_all(piece, bound):
    """Whether a bound lets all points of a piece with points."""
    d, number = bound
    return piece.bounds[d] is not None and not number.less(piece.bounds[d])


def word_by(piece, bounds):
    """The word for a tile with these bounds, for the floors with shifts in a piece with points."""
    if all([lets_all(piece, bound) for bound in bounds]):
        return "sure"
    numbers = least_numbers(rows_of(piece) + list(bounds))
    return "open" if barring_parts(over_common(numbers)[1]) is None else "never"


def word_in(piece, tile):
    """The word for a tile, for the floors with shifts in a piece."""
    if piece.is_empty():
        raise EmptyPiece()
    return word_by(piece, tile_bounds(tile))


def beyond_some(piece, bounds):
    """A shift in a piece beyond one of some bounds, not all of which let the whole piece."""
    for bound in bounds:
        if not lets_all(piece, bound):
            return Piece(rows_of(piece) + [opposite(bound)]).let_point()
    return None


def word(heap, tile):
    """The word for a tile, for the floors with a heap, with a paper that shows it."""
    piece = held_piece(heap)
    bounds = tile_bounds(tile)
    rows = row_bounds(heap)
    told = word_by(piece, bounds)
    if told == "never":
        return ("never", bars(rows + list(bounds)))
    if told == "sure":
        return ("sure", tuple([press(rows, bound) for bound in bounds]))
    shift = Piece(rows_of(piece) + list(bounds)).let_point()
    return ("open", shift, beyond_some(piece, bounds))


def are_presses(rows, bounds, thing):
    """Whether a thing is a tuple of presses of a row of bounds on each of some bounds, in order."""
    if not isinstance(thing, tuple) or len(thing) != len(bounds):
        return False
    return all([is_press(rows, bound, part) for bound, part in zip(bounds, thing)])


def is_word(heap, tile, thing):
    """Whether a thing is a right answer of word."""
    piece = held_piece(heap)
    bounds = tile_bounds(tile)
    rows = row_bounds(heap)
    if is_paper(thing, "never", 2):
        return is_bars(rows + list(bounds), thing[1])
    if is_paper(thing, "sure", 2):
        return are_presses(rows, bounds, thing[1])
    if not is_paper(thing, "open", 3) or not is_shift_in(piece, thing[1]) or not is_shift_in(piece, thing[2]):
        return False
    shape = Piece(bounds)
    return shape.has(thing[1]) and not shape.has(thing[2])


def corners_over(piece, point, size):
    """Tuples (corner, square), ascending by corner, of all corners at most size away from a point that some floor
    with its shift in a bounded piece may have, and some more; square is that of the distance.
    """
    edge = Root(1, 1, 2)
    bounds = piece.bounds
    lows = (-bounds[4] - edge, -bounds[6] - edge)
    highs = (bounds[0] + edge, bounds[2] + edge)
    # No corner comes twice, so the squares are not asked for their order.
    return sorted(corners_about(as_roots(point), size, lows, highs))


def possible(heap, point, size):
    """The ascending list of (tile, word) of all tiles near a point that are sure or open."""
    piece = tiled_piece(heap)
    check_point(point)
    check_size(size, 3)
    found = []
    for corner, square in corners_over(piece, point, size):
        for i, j in TILE_WAYS:
            tile = (corner, i, j)
            told = word_in(piece, tile)
            if told != "never":
                found.append((tile, told))
    return found


def first_open(piece, corner):
    """The least open tile with an own corner, or None."""
    for i, j in TILE_WAYS:
        if word_in(piece, (corner, i, j)) == "open":
            return (corner, i, j)
    return None


def nearest_open(heap, point, most):
    """The open tile with the nearest own corner, of these the least, or None if there is none near enough."""
    piece = tiled_piece(heap)
    check_point(point)
    check_size(most, 4)
    nearest = None
    least = None
    for corner, square in corners_over(piece, point, most):
        # Corners come ascending, so of those that are equally near the first one stays.
        if nearest is None or square.less(least):
            tile = first_open(piece, corner)
            if tile is not None:
                nearest = tile
                least = square
    return nearest
