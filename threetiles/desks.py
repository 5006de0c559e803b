"""Desks, which keep tiles that are told to be there or to be absent."""

from threetiles.absents import MOST_ABSENT, grown_paper
from threetiles.errors import Clash, Known, NothingDone, TooMany
from threetiles.heaps import MOST_TILES, row_bounds
from threetiles.lots import tile_bounds
from threetiles.tiles import check_tile


def kept_as(kept, there):
    """The list of the tiles of tuples (tile, there) with this flag."""
    return [tile for tile, flag in kept if flag == there]


def paper_for(kept):
    """As with_absent, for tuples (tile, there)."""
    return grown_paper(row_bounds(kept_as(kept, True)), [tile_bounds(tile) for tile in kept_as(kept, False)])


def can_be(kept):
    """Whether some floor fits tuples (tile, there)."""
    return paper_for(kept)[0] == "floor"


class Desk:
    """What was told, and what was denied."""

    def __init__(self):
        # A tuple of (tile, there). It is never changed, but replaced, so that who keeps it can put it back.
        self._kept = ()

    def _keep(self, tile, there, most):
        """Puts a tile behind the others, of which there may be so many with this flag."""
        check_tile(tile)
        if tile in [other for other, flag in self._kept]:
            raise Known(tile)
        if len(kept_as(self._kept, there)) == most:
            raise TooMany(most)
        kept = self._kept + ((tile, there),)
        kind, paper = paper_for(kept)
        if kind == "tree":
            raise Clash(paper)
        self._kept = kept
        return len(kept)

    def tell(self, tile):
        """Keeps a tile that is there, and returns how many are kept."""
        return self._keep(tile, True, MOST_TILES)

    def deny(self, tile):
        """Keeps a tile that is absent, and returns how many are kept."""
        return self._keep(tile, False, MOST_ABSENT)

    def back(self):
        """Takes the last tile away."""
        if len(self._kept) == 0:
            raise NothingDone()
        self._kept = self._kept[:-1]

    def told(self):
        """The list of the tiles that are there, in the order in which they came."""
        return kept_as(self._kept, True)

    def denied(self):
        """The list of the tiles that are absent, in the order in which they came."""
        return kept_as(self._kept, False)

    def fitting(self):
        """The shift of a floor that fits."""
        return paper_for(self._kept)[1]

    def word(self, tile):
        """Whether all floors that fit have a tile, none, or some and some not."""
        check_tile(tile)
        if not can_be(self._kept + ((tile, False),)):
            return "sure"
        return "open" if can_be(self._kept + ((tile, True),)) else "never"

    def trying(self, deed):
        """What a function returns that is called with the desk, which is then as it was."""
        kept = self._kept
        try:
            return deed(self)
        finally:
            self._kept = kept
