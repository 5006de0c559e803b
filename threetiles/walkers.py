"""Whether walkers always end alike, come home, and how often they meet."""

from threetiles.corners import ORIGIN
from threetiles.cuts import joined_lot, lots_by_key, share, total_area
from threetiles.floors import Floor
from threetiles.heaps import is_paper, is_shift
from threetiles.lots import window
from threetiles.outcomes import branches, branches_of, check_many, is_whole, shift_at
from threetiles.programs import check_program, walk


def pair_branches(one, other):
    """A list of (lot, walker, walker): the parts of the window from which the walks of two programs have unlike pairs
    of answers, and both walkers at their end.
    """
    for program in (one, other):
        check_program(program)
    found = []
    sights = {}
    for lot, walker in branches([window()], one, sights):
        for part, second in branches(lot, other, sights):
            found.append((part, walker, second))
            check_many(found)
    return found


def alike(one, other):
    """A lot on the pieces of which two programs end alike, or a shift of a floor in which they do not."""
    keyed = []
    for lot, first, second in pair_branches(one, other):
        if first[:2] != second[:2]:
            return ("apart", shift_at(lot))
        keyed.append((first[:2], lot))
    found = []
    for end, lot in lots_by_key(keyed).items():
        found.extend(joined_lot(lot))
    return ("alike", found)


def is_apart(one, other, thing):
    """Whether a thing is a shift of a floor with the corner (0, 0, 0, 0), from which two programs end unlike."""
    if not is_shift(thing):
        return False
    floor = Floor(thing)
    if not floor.has_corner(ORIGIN):
        return False
    return walk(floor, ORIGIN, one)[:2] != walk(floor, ORIGIN, other)[:2]


def is_alike(one, other, thing):
    """Whether a thing is a right answer of alike."""
    for program in (one, other):
        check_program(program)
    if is_paper(thing, "apart", 2):
        return is_apart(one, other, thing[1])
    if not is_paper(thing, "alike", 2) or not isinstance(thing[1], list) or not is_whole(thing[1]):
        return False
    sights = {}
    for piece in thing[1]:
        told = branches([piece], one, sights) + branches([piece], other, sights)
        for lot, walker in told:
            if walker[:2] != told[0][1][:2]:
                return False
    return True


def paths_in(block):
    """The ascending list of the paths of all statements of a block."""
    found = []
    for index, statement in enumerate(block):
        found.append((index,))
        if statement[0] == "ask":
            for which in range(2):
                found.extend([(index, which) + path for path in paths_in(statement[2 + which])])
        elif statement[0] == "again":
            found.extend([(index,) + path for path in paths_in(statement[2])])
    return found


def without_path(block, path):
    """A block without the statement of a path."""
    index = path[0]
    if len(path) == 1:
        return block[:index] + block[index + 1:]
    statement = block[index]
    at = 2
    rest = path[1:]
    if statement[0] == "ask":
        at = 2 + path[1]
        rest = path[2:]
    inner = (without_path(statement[at], rest),)
    changed = (statement[:at] + inner + statement[at + 1:],)
    return block[:index] + changed + block[index + 1:]


def needless(program):
    """The ascending list of the paths of all statements without which a program is alike to itself as it was."""
    check_program(program)
    return [path for path in paths_in(program) if alike(program, without_path(program, path))[0] == "alike"]


def comes_home(program):
    """A lot on the pieces of which a program ends where it began, or a shift of a floor in which it does not."""
    for lot, walker in branches_of(program):
        if walker[0] != ORIGIN:
            return ("away", shift_at(lot))
    return ("home", [window()])


def meeting(one, other):
    """The share of the corners from which two programs end at one corner."""
    met = []
    for lot, first, second in pair_branches(one, other):
        if first[0] == second[0]:
            met.extend(lot)
    return share(total_area(met))
