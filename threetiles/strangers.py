"""Strangers who tell which tiles are there, and whether some floor has what they tell."""

from threetiles.bars import bars
from threetiles.bounds import barring_parts, least_indexes, least_numbers, over_common
from threetiles.corners import check_corner, step
from threetiles.errors import BadSize, BadStranger
from threetiles.heaps import row_bounds
from threetiles.pieces import Piece
from threetiles.roots import is_integral
from threetiles.tiles import tile_between


def tiles_about(corner):
    """A list of (tile, direction, wide) of the 24 tiles that have a corner: from this direction on a tile lies over so
    many eighths of the round about it.
    """
    found = []
    for direction in range(8):
        for wide in range(1, 4):
            found.append((tile_between(corner, direction, (direction + wide) % 8), direction, wide))
    return found


def ask_about(stranger, corner, answers):
    """Asks for all tiles that have a corner, but for those that are answered; what is told is put into a dict."""
    for tile, direction, wide in tiles_about(corner):
        if tile not in answers:
            answer = stranger(tile)
            if not isinstance(answer, bool):
                raise BadStranger()
            answers[tile] = answer


def told_tiles(answers):
    """The ascending list of the told tiles."""
    return [tile for tile in sorted(answers) if answers[tile]]


def reached(corner, answers):
    """The ascending list of the corners that are reached from a corner along one side of a told tile."""
    found = []
    for tile, direction, wide in tiles_about(corner):
        if answers[tile]:
            found.append(step(corner, direction, 1))
            found.append(step(corner, (direction + wide) % 8, 1))
    return sorted(set(found))


def lie_round(corner, answers):
    """Whether just one told tile lies over each eighth of the round about a corner."""
    many = [0] * 8
    for tile, direction, wide in tiles_about(corner):
        if answers[tile]:
            for eighth in range(direction, direction + wide):
                many[eighth % 8] = many[eighth % 8] + 1
    return many == [1] * 8


def barring_tiles(tiles):
    """An ascending list of at most three of some tiles that no floor has, or None if some floor has all tiles."""
    rows = row_bounds(tiles)
    parts = barring_parts(over_common(least_numbers(rows))[1])
    if parts is None:
        return None
    indexes = least_indexes(rows)
    # There are four bounds for each tile.
    return sorted(set([tiles[indexes[d] // 4] for d, weight in parts]))


def refuted(stranger, corner, steps):
    """What shows that no floor has what a stranger tells about a corner, or a floor that has it."""
    check_corner(corner)
    if not is_integral(steps) or not 1 <= steps <= 2:
        raise BadSize(steps)
    answers = {}
    ask_about(stranger, corner, answers)
    if len(told_tiles(answers)) == 0:
        return ("none",)
    corners = [corner]
    if steps == 2:
        corners.extend(reached(corner, answers))
    for other in corners:
        ask_about(stranger, other, answers)
    told = told_tiles(answers)
    barring = barring_tiles(told)
    if barring is not None:
        return ("bars", tuple(barring), bars(row_bounds(barring)))
    for other in corners:
        if not lie_round(other, answers):
            return ("gap", other)
    # About these corners there is room for no more tiles, so what was denied is not there.
    return ("fits", Piece(row_bounds(told)).let_point())
