"""The errors of the package: each keeps the very thing that it was made with."""


class FloorError(ValueError):
    """What all errors of the package are."""


class BadNumber(FloorError):
    """What was passed is no integer or no number, or it is a 0 to divide by."""

    def __init__(self, value):
        self.value = value


class BadPoint(FloorError):
    """What was passed is no point."""

    def __init__(self, point):
        self.point = point


class BadCorner(FloorError):
    """What was passed is no corner."""

    def __init__(self, corner):
        self.corner = corner


class BadDirection(FloorError):
    """What was passed is no direction."""

    def __init__(self, direction):
        self.direction = direction


class Barred(FloorError):
    """The shift is barred by a direction."""

    def __init__(self, direction):
        self.direction = direction


class NoCorner(FloorError):
    """The floor has not got the corner."""

    def __init__(self, corner):
        self.corner = corner


class BadTile(FloorError):
    """What was passed is no tile."""

    def __init__(self, tile):
        self.tile = tile


class NoTile(FloorError):
    """The floor, or the ribbon of it, has not got the tile."""

    def __init__(self, tile):
        self.tile = tile


class BadSide(FloorError):
    """What was passed is no number of a side."""

    def __init__(self, side):
        self.side = side


class BadSize(FloorError):
    """What was passed is no integer, or one that is too small or too great."""

    def __init__(self, size):
        self.size = size


class BadBounds(FloorError):
    """What was passed is no row of bounds, or the item with the index is no bound."""

    def __init__(self, index):
        self.index = index


class EmptyPiece(FloorError):
    """The piece has no points."""


class Unbounded(FloorError):
    """The piece has no rim all round."""


class BadLot(FloorError):
    """What was passed is no lot, or the item with the index is no bounded piece."""

    def __init__(self, index):
        self.index = index


class BadPiece(FloorError):
    """What was passed is no piece."""

    def __init__(self, piece):
        self.piece = piece


class TooMany(FloorError):
    """There is more than the limit lets."""

    def __init__(self, limit):
        self.limit = limit


class BadHeap(FloorError):
    """What was passed is no heap, or the item with the index is no tile."""

    def __init__(self, index):
        self.index = index


class NotHeld(FloorError):
    """No floor has all of the heap."""


class EmptyHeap(FloorError):
    """The heap has no tiles."""


class NotSettled(FloorError):
    """The tile is open."""


class BadPrices(FloorError):
    """What was passed is no row of prices for the heap."""


class BadAbsent(FloorError):
    """What was passed is no row of absent tiles, or the item with the index is no tile."""

    def __init__(self, index):
        self.index = index


class BadFloor(FloorError):
    """What was passed is no floor."""

    def __init__(self, floor):
        self.floor = floor


class BadRibbon(FloorError):
    """What was passed is no ribbon."""

    def __init__(self, ribbon):
        self.ribbon = ribbon


class SameWay(FloorError):
    """Two ribbons have the same direction."""


class BadShift(FloorError):
    """The argument with the index is no shift, or a barred one."""

    def __init__(self, index):
        self.index = index


class BadRibbons(FloorError):
    """What was passed is no row of ribbons, or the item with the index is none or a repeated one."""

    def __init__(self, index):
        self.index = index


class BadKind(FloorError):
    """What was passed is no kind of corners."""

    def __init__(self, kind):
        self.kind = kind


class BadProgram(FloorError):
    """What was passed is no program."""


class NoSide(FloorError):
    """No side leaves in the direction."""

    def __init__(self, direction):
        self.direction = direction


class BadAsked(FloorError):
    """What was passed is no row of tiles to ask for, or the item with the index is no tile."""

    def __init__(self, index):
        self.index = index


class BadStranger(FloorError):
    """The stranger told something that is no flag."""


class Known(FloorError):
    """The desk keeps the tile already."""

    def __init__(self, tile):
        self.tile = tile


class Clash(FloorError):
    """No floor fits; the tree shows it."""

    def __init__(self, tree):
        self.tree = tree


class NothingDone(FloorError):
    """The desk keeps nothing that could be taken away."""


class BadText(FloorError):
    """What was passed is no text, or the row of it is wrong."""

    def __init__(self, row):
        self.row = row
