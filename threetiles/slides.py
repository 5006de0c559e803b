"""Slides: how the crossings of ribbons turn over, one behind the other, from one floor to another one."""

from itertools import combinations

from threetiles.bounds import toward
from threetiles.errors import BadRibbons, BadShift
from threetiles.heaps import is_shift
from threetiles.points import taken
from threetiles.ribbons import crossed_at, is_ribbon, side_bound, way_along
from threetiles.roots import is_integral

LEAST_RIBBONS = 3
MOST_RIBBONS = 10


def check_ribbon_row(ribbons):
    """Raises what is due for what is no row of 3 to 10 unlike ribbons."""
    if not isinstance(ribbons, (list, tuple)) or not LEAST_RIBBONS <= len(ribbons) <= MOST_RIBBONS:
        raise BadRibbons(-1)
    for index, ribbon in enumerate(ribbons):
        if not is_ribbon(ribbon) or ribbon in ribbons[:index]:
            raise BadRibbons(index)


def check_slide(one, other, ribbons):
    """Raises what is due for arguments of a slide."""
    for index, shift in enumerate((one, other)):
        if not is_shift(shift):
            raise BadShift(index)
    check_ribbon_row(ribbons)


def orders_at(shift, ribbons):
    """For each ribbon the list of the indexes of those that cross it in the floor with a shift, forth."""
    orders = []
    for ribbon in ribbons:
        crossings = []
        for index, other in enumerate(ribbons):
            if other[0] != ribbon[0]:
                crossings.append((way_along(ribbon, crossed_at(shift, ribbon, other)), index))
        orders.append([index for way, index in sorted(crossings)])
    return orders


def turn_time(one, other, bound):
    """When, from 0 to 1, a point that goes straight from one shift to another one passes the line of a bound,
    or None if both lie on one side of it.
    """
    d, number = bound
    start = number - toward(d, one)
    if start.sign() == (number - toward(d, other)).sign():
        return None
    return start.over(toward(d, taken(other, one)))


def put_by_time(turns, time, triple):
    """Puts a tuple (time, triple) into a list of such, ascending by time, behind all of the same time."""
    low = 0
    high = len(turns)
    while low < high:
        middle = (low + high) // 2
        if time.less(turns[middle][0]):
            high = middle
        else:
            low = middle + 1
    turns.insert(low, (time, triple))


def turns_of(one, other, ribbons):
    """The list of all (time, triple) of ribbons that stand otherwise in two floors, ascending by time."""
    turns = []
    for triple in combinations(range(len(ribbons)), 3):
        three = [ribbons[index] for index in triple]
        if len(set([k for k, number in three])) == 3:
            time = turn_time(one, other, side_bound(three[0], three[1], three[2]))
            if time is not None:
                put_by_time(turns, time, triple)
    return turns


def pairs_of(triple):
    """For each of three indexes the tuple of it and of the two others."""
    a, b, c = triple
    return ((a, b, c), (b, a, c), (c, a, b))


def can_turn(orders, triple):
    """Whether the crossings of three ribbons are neighbours on each of these."""
    for on, left, right in pairs_of(triple):
        if abs(orders[on].index(left) - orders[on].index(right)) != 1:
            return False
    return True


def turned_over(orders, triple):
    """The orders with the crossings of three ribbons exchanged on each of these."""
    found = list(orders)
    for on, left, right in pairs_of(triple):
        swapped = {left: right, right: left}
        found[on] = [swapped.get(index, index) for index in orders[on]]
    return found


def first_to_turn(orders, turns):
    """The place in a row of turns of the first one that can be done; of those with the least time some one can."""
    at = 0
    while not can_turn(orders, turns[at][1]):
        at = at + 1
    return at


def slides(one, other, ribbons):
    """A list of the triples of ribbons that turn over from one shift to another one, one behind the other."""
    check_slide(one, other, ribbons)
    orders = orders_at(one, ribbons)
    # On the straight way from shift to shift each of the triples turns over just once. Those that do so at
    # one time are free to do so one behind the other, in some order.
    turns = turns_of(one, other, ribbons)
    found = []
    while len(turns) > 0:
        time, triple = turns.pop(first_to_turn(orders, turns))
        orders = turned_over(orders, triple)
        found.append(triple)
    return found


def is_triple(thing):
    """Whether a thing is a tuple of three integers."""
    return isinstance(thing, tuple) and len(thing) == 3 and all([is_integral(index) for index in thing])


def is_slides(one, other, ribbons, thing):
    """Whether a thing is a right answer of slides."""
    check_slide(one, other, ribbons)
    if not isinstance(thing, list) or not all([is_triple(part) for part in thing]):
        return False
    asked = [triple for time, triple in turns_of(one, other, ribbons)]
    if sorted(thing) != sorted(asked):
        return False
    orders = orders_at(one, ribbons)
    for triple in thing:
        if not can_turn(orders, triple):
            return False
        orders = turned_over(orders, triple)
    return True
