"""The least lots of tiles of a heap that settle whether the floors with them have a tile, and the cheapest one."""

from itertools import combinations

from threetiles.errors import BadPrices, NotSettled, TooMany
from threetiles.heaps import held_piece, row_bounds
from threetiles.lots import tile_bounds
from threetiles.pieces import Piece
from threetiles.roots import is_integral
from threetiles.words import word_by

MOST_TILES = 10

# Two bounds do to press on one, and a tile has four bounds.
MOST_INDEXES = 8


def check_prices(heap, prices):
    """Raises what is due for what is no row with an integer from 0 on for each tile of a heap."""
    if not isinstance(prices, (list, tuple)) or len(prices) != len(heap):
        raise BadPrices()
    for price in prices:
        if not is_integral(price) or price < 0:
            raise BadPrices()


def tells(heap, lot, bounds, told):
    """Whether the tiles of a heap with the indexes of a lot give this word for these bounds."""
    return word_by(Piece(row_bounds([heap[index] for index in lot])), bounds) == told


def ones_and_twos(heap, bounds, told):
    """The tuples of one index, or of two of which none does alone, that give this word for these bounds."""
    ones = [(index,) for index in range(len(heap)) if tells(heap, (index,), bounds, told)]
    twos = []
    for pair in combinations(range(len(heap)), 2):
        if (pair[0],) not in ones and (pair[1],) not in ones and tells(heap, pair, bounds, told):
            twos.append(pair)
    return ones + twos


def demands(heap, tile):
    """A list of lists of tuples of indexes: a lot settles the tile if it has all of one tuple of each list."""
    piece = held_piece(heap)
    bounds = tile_bounds(tile)
    if len(heap) > MOST_TILES:
        raise TooMany(MOST_TILES)
    told = word_by(piece, bounds)
    if told == "open":
        raise NotSettled()
    if told == "never":
        return [ones_and_twos(heap, bounds, told)]
    # Each side of the tile is pressed on by itself.
    return [ones_and_twos(heap, [bound], told) for bound in bounds]


def has_one_of(lot, tuples):
    """Whether a lot has all indexes of one of some tuples."""
    return any([all([index in lot for index in each]) for each in tuples])


def least_lots(heap, tile):
    """The list of all least tuples of indexes whose tiles alone settle a tile, by length, then as tuples."""
    asked = demands(heap, tile)
    found = []
    for many in range(1, MOST_INDEXES + 1):
        fresh = []
        for lot in combinations(range(len(heap)), many):
            if not has_one_of(lot, found) and all([has_one_of(lot, tuples) for tuples in asked]):
                fresh.append(lot)
        found.extend(fresh)
    return found


def cheapest_lot(heap, prices, tile):
    """The tuple (cost, lot) of the cheapest lot that settles a tile, of these the first one of least_lots."""
    held_piece(heap)
    check_prices(heap, prices)
    best = None
    # Any other lot has one of these in it, which costs no more and comes ahead.
    for lot in least_lots(heap, tile):
        cost = sum([prices[index] for index in lot])
        if best is None or cost < best[0]:
            best = (cost, lot)
    return best
