"""Heaps: rows of tiles, and whether some floor has all of one."""

from threetiles.bars import bars, is_bars
from threetiles.errors import BadHeap, EmptyHeap, NotHeld
from threetiles.floors import barred
from threetiles.lots import tile_bounds
from threetiles.pieces import Piece
from threetiles.points import is_point
from threetiles.tiles import wrong_in_row

MOST_TILES = 40


def check_heap(heap):
    """Raises what is due for what is no row of at most 40 tiles."""
    index = wrong_in_row(heap, MOST_TILES)
    if index is not None:
        raise BadHeap(index)


def check_tiled(heap):
    """Raises what is due for a heap without tiles."""
    if len(heap) == 0:
        raise EmptyHeap()


def row_bounds(tiles):
    """The list of the bounds of a row of tiles, four for each."""
    found = []
    for tile in tiles:
        found.extend(tile_bounds(tile))
    return found


def heap_piece(heap):
    """The piece of the points that lie in the lozenges of all tiles of a heap."""
    check_heap(heap)
    return Piece(row_bounds(heap))


def held_piece(heap):
    """As heap_piece, for a heap that some floor has to have."""
    piece = heap_piece(heap)
    if piece.is_empty():
        raise NotHeld()
    return piece


def tiled_piece(heap):
    """As held_piece, for a heap that has to have tiles."""
    check_heap(heap)
    check_tiled(heap)
    return held_piece(heap)


def held(heap):
    """A floor that has all of a heap, or bars that show that none has."""
    piece = heap_piece(heap)
    if piece.is_empty():
        return ("bars", bars(row_bounds(heap)))
    return ("floor", piece.let_point())


def is_paper(thing, word, many):
    """Whether a thing is a tuple of so many items that begins with a word."""
    return isinstance(thing, tuple) and len(thing) == many and isinstance(thing[0], str) and thing[0] == word


def is_shift(thing):
    """Whether a thing is a shift that no direction bars."""
    return is_point(thing) and barred(thing) is None


def is_shift_in(piece, thing):
    """Whether a thing is a shift in a piece that no direction bars."""
    return is_shift(thing) and piece.has(thing)


def is_held(heap, thing):
    """Whether a thing is a right answer of held."""
    piece = heap_piece(heap)
    if is_paper(thing, "floor", 2):
        return is_shift_in(piece, thing[1])
    return is_paper(thing, "bars", 2) and is_bars(row_bounds(heap), thing[1])
