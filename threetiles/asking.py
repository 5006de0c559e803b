"""What to ask about a floor, to know whether it has a tile."""

from threetiles.cuts import cut_in_all, cut_lot
from threetiles.errors import BadAsked
from threetiles.heaps import held_piece, is_paper
from threetiles.lots import tile_bounds
from threetiles.roots import is_integral
from threetiles.tiles import wrong_in_row

MOST_ASKED = 5


def check_asked(tiles):
    """Raises what is due for what is no row of at most 5 tiles to ask for."""
    index = wrong_in_row(tiles, MOST_ASKED)
    if index is not None:
        raise BadAsked(index)


def cases_of(heap, tiles, tile):
    """A list of (there, having, lacking), one for each way in which floors with a heap answer for all tiles: the
    indexes of those that are there, and the lots of shifts of the floors that answer so and have the tile, or not.
    """
    piece = held_piece(heap)
    check_asked(tiles)
    bounds = tile_bounds(tile)
    found = [((), [piece])]
    for k, other in enumerate(tiles):
        found = cut_in_all(found, tile_bounds(other), (k,))
    cases = []
    for there, lot in found:
        having, lacking = cut_lot(lot, bounds)
        cases.append((there, having, lacking))
    return cases


def parted_cases(cases, k):
    """The cases in which a tile is there, and those in which it is not."""
    return ([case for case in cases if k in case[0]], [case for case in cases if k not in case[0]])


def all_have(cases):
    """Whether all floors of some cases have the tile."""
    return all([len(lacking) == 0 for there, having, lacking in cases])


def none_has(cases):
    """Whether no floor of some cases has the tile."""
    return all([len(having) == 0 for there, having, lacking in cases])


def least_plan(cases, many):
    """The tuple (asks, plan) of a plan with the fewest asks for some cases that so many tiles settle."""
    if all_have(cases):
        return (0, ("yes",))
    if none_has(cases):
        return (0, ("no",))
    best = None
    for k in range(many):
        with_it, without_it = parted_cases(cases, k)
        # An ask of which the answer is known leads nowhere, and to an end that no floor fits.
        if len(with_it) > 0 and len(without_it) > 0:
            yes = least_plan(with_it, many)
            no = least_plan(without_it, many)
            asked = 1 + max(yes[0], no[0])
            if best is None or asked < best[0]:
                best = (asked, ("ask", k, yes[1], no[1]))
    return best


def asks(heap, tiles, tile):
    """The least number of asks that settle whether a floor with a heap has a tile, with a plan of so many; or the
    shifts of two floors that answer alike, the first one with the tile, the second one without.
    """
    cases = cases_of(heap, tiles, tile)
    for there, having, lacking in cases:
        if len(having) > 0 and len(lacking) > 0:
            return ("never", having[0].let_point(), lacking[0].let_point())
    many, plan = least_plan(cases, len(tiles))
    return ("asks", many, plan)


def settles(cases, many, thing):
    """Whether a thing is a plan for some cases."""
    if len(cases) == 0:
        return False
    if is_paper(thing, "yes", 1):
        return all_have(cases)
    if is_paper(thing, "no", 1):
        return none_has(cases)
    if not is_paper(thing, "ask", 4) or not is_integral(thing[1]) or not 0 <= thing[1] < many:
        return False
    with_it, without_it = parted_cases(cases, thing[1])
    return settles(with_it, many, thing[2]) and settles(without_it, many, thing[3])


def is_plan(heap, tiles, tile, thing):
    """Whether a thing is a plan, of few asks or of many."""
    return settles(cases_of(heap, tiles, tile), len(tiles), thing)
