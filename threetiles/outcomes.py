"""What becomes of a walker from all corners of all floors."""

from itertools import combinations

from threetiles.corners import ORIGIN, is_corner, place
from threetiles.cuts import cut_lot, joined_lot, lots_by_key, lots_by_kind, share, sight, total_area
from threetiles.errors import TooMany
from threetiles.lots import are_apart, window
from threetiles.pieces import Piece
from threetiles.points import scaled, square
from threetiles.programs import check_program
from threetiles.roots import is_integral
from threetiles.runs import answered, is_looking, looked_at, started

MOST_ANSWERS = 400


def check_many(found):
    """Raises what is due for more than 400 unlike answers."""
    if len(found) > MOST_ANSWERS:
        raise TooMany(MOST_ANSWERS)


def branches(lot, program, sights):
    """A list of (lot, walker): the parts of a lot of points from which walks have unlike answers, and the walker at
    their end. What is known of sights is kept in a dict, by ways.
    """
    waiting = [(lot, started(ORIGIN, program))]
    found = []
    while len(waiting) > 0:
        part, walker = waiting.pop()
        if not is_looking(walker):
            found.append((part, walker))
            check_many(found)
            continue
        way = looked_at(walker)
        if way not in sights:
            sights[way] = sight(way)
        inside, outside = cut_lot(part, sights[way])
        if len(outside) > 0:
            waiting.append((outside, answered(walker, False)))
        if len(inside) > 0:
            waiting.append((inside, answered(walker, True)))
    return found


def branches_of(program):
    """As branches, for all points of the window."""
    check_program(program)
    return branches([window()], program, {})


def outcomes(program):
    """A list of (piece, outcome) that has all points of the window, but for some lines."""
    found = []
    lots = lots_by_key([(walker[:3], lot) for lot, walker in branches_of(program)])
    for outcome, lot in lots.items():
        found.extend([(piece, outcome) for piece in joined_lot(lot)])
    return found


def is_part(thing):
    """Whether a thing is a piece with points within the window."""
    return isinstance(thing, Piece) and not thing.is_empty() and thing.within(window())


def is_whole(things):
    """Whether a list has pieces with points within the window, no two with a common one, that have its area."""
    if not all([is_part(thing) for thing in things]) or total_area(things) != window().area():
        return False
    for one, other in combinations(things, 2):
        if not are_apart(one, other):
            return False
    return True


def is_outcome(thing):
    """Whether a thing has the form of an outcome."""
    if not isinstance(thing, tuple) or len(thing) != 3:
        return False
    return is_corner(thing[0]) and is_integral(thing[1]) and is_integral(thing[2])


def is_told(thing):
    """Whether a thing is a tuple of two, the second one with the form of an outcome."""
    return isinstance(thing, tuple) and len(thing) == 2 and is_outcome(thing[1])


def is_outcomes(program, thing):
    """Whether a thing is a right answer of outcomes."""
    check_program(program)
    if not isinstance(thing, list) or not all([is_told(part) for part in thing]):
        return False
    if not is_whole([piece for piece, outcome in thing]):
        return False
    sights = {}
    for piece, outcome in thing:
        for lot, walker in branches([piece], program, sights):
            if walker[:3] != outcome:
                return False
    return True


def shares_by_key(keyed):
    """The dict from the keys of a list of (key, lot), which may come again, to their shares."""
    lots = lots_by_key(keyed)
    return {key: share(total_area(lots[key])) for key in lots}


def ends(program):
    """The dict from all (way, heading) that come to their shares."""
    return shares_by_key([(walker[:2], lot) for lot, walker in branches_of(program)])


def goings(program):
    """The tuple of the least and the greatest number of steps that come."""
    numbers = [walker[2] for lot, walker in branches_of(program)]
    return (min(numbers), max(numbers))


def shift_at(lot):
    """A shift that no direction bars, of a floor with the corner (0, 0, 0, 0) at a point of a lot of the window."""
    return scaled(-1, lot[0].let_point())


def farthest(program):
    """The tuple of the greatest square of a way that comes, and a shift with which it does."""
    most = None
    best = None
    for lot, walker in branches_of(program):
        far = square(place(walker[0]))
        if most is None or most.less(far):
            most = far
            best = lot
    return (most, shift_at(best))


def kinds_led(program):
    """The dict from all tuples of the kinds of the first and the last corner that come to their shares."""
    keyed = []
    for lot, walker in branches_of(program):
        for kind, part in lots_by_kind(lot, ORIGIN):
            keyed.extend([((kind, other), some) for other, some in lots_by_kind(part, walker[0])])
    return shares_by_key(keyed)
