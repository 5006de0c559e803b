"""Floors that have all of a heap and none of some absent tiles, and trees that show that there are none."""

from threetiles.bars import bars, is_bars
from threetiles.bounds import opposite
from threetiles.errors import BadAbsent
from threetiles.heaps import check_heap, is_paper, row_bounds
from threetiles.lots import tile_bounds
from threetiles.pieces import Piece
from threetiles.roots import is_integral
from threetiles.tiles import wrong_in_row
from threetiles.words import word_by

MOST_ABSENT = 6


def check_absent(absent):
    """Raises what is due for what is no row of at most 6 tiles."""
    index = wrong_in_row(absent, MOST_ABSENT)
    if index is not None:
        raise BadAbsent(index)


def next_split(piece, shapes):
    """The index of the bounds of a tile that floors with shifts in a piece have, of one that all have if there is
    such, or None if they have no one.
    """
    some = None
    for k, bounds in enumerate(shapes):
        told = word_by(piece, bounds)
        # All branches of such a split end at once.
        if told == "sure":
            return k
        if told == "open" and some is None:
            some = k
    return some


def grown_paper(rows, shapes):
    """As with_absent, for the floors with shifts that a row of bounds lets."""
    piece = Piece(rows)
    if piece.is_empty():
        return ("tree", ("bars", bars(rows)))
    # Beyond a side of a tile no floor has the tile, so none is split twice.
    k = next_split(piece, shapes)
    if k is None:
        return ("floor", piece.let_point())
    branches = []
    for bound in shapes[k]:
        kind, paper = grown_paper(rows + [opposite(bound)], shapes)
        if kind == "floor":
            return (kind, paper)
        branches.append(paper)
    return ("tree", ("split", k, tuple(branches)))


def with_absent(heap, absent):
    """A floor that has all of a heap and none of some absent tiles, or a tree that shows that there is none."""
    check_heap(heap)
    check_absent(absent)
    return grown_paper(row_bounds(heap), [tile_bounds(tile) for tile in absent])


def is_grown(rows, shapes, above, thing):
    """Whether a thing is a tree, where a row of bounds counts and the tiles with the indexes above are split."""
    if is_paper(thing, "bars", 2):
        return is_bars(rows, thing[1])
    if not is_paper(thing, "split", 3):
        return False
    k = thing[1]
    branches = thing[2]
    if not is_integral(k) or not 0 <= k < len(shapes) or k in above:
        return False
    if not isinstance(branches, tuple) or len(branches) != len(shapes[k]):
        return False
    for bound, branch in zip(shapes[k], branches):
        if not is_grown(rows + [opposite(bound)], shapes, above + (k,), branch):
            return False
    return True


def is_tree(heap, absent, thing):
    """Whether a thing is a tree of a heap and of some absent tiles."""
    check_heap(heap)
    check_absent(absent)
    return is_grown(row_bounds(heap), [tile_bounds(tile) for tile in absent], (), thing)
