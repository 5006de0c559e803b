"""Programs of walkers, and their walks in a floor."""

from threetiles.corners import is_direction
from threetiles.errors import BadProgram, NoCorner
from threetiles.floors import check_floor
from threetiles.heaps import is_paper
from threetiles.roots import is_integral
from threetiles.runs import answered, is_looking, looked_at, started

MOST_STATEMENTS = 60
MOST_DEEP = 6
MOST_ROUNDS = 60


def is_rounds(thing):
    """Whether a thing is a number of rounds."""
    return is_integral(thing) and 0 <= thing <= MOST_ROUNDS


def parts_of(thing):
    """The tuple of the blocks within a thing that is a statement if these are blocks, or None if it surely is none."""
    if is_paper(thing, "go", 1):
        return ()
    if is_paper(thing, "turn", 2) and is_direction(thing[1]):
        return ()
    if is_paper(thing, "ask", 4) and is_direction(thing[1]):
        return thing[2:]
    if is_paper(thing, "again", 3) and is_rounds(thing[1]):
        return thing[2:]
    return None


def left_behind(thing, deep, left):
    """How many of the statements that are left may come behind a block so deep, or None if a thing is no such block."""
    if not isinstance(thing, tuple) or (len(thing) > 0 and deep > MOST_DEEP):
        return None
    for statement in thing:
        parts = parts_of(statement)
        if parts is None or left == 0:
            return None
        left = left - 1
        for part in parts:
            left = left_behind(part, deep + 1, left)
            if left is None:
                return None
    return left


def is_program(thing):
    """Whether a thing is a program."""
    return left_behind(thing, 1, MOST_STATEMENTS) is not None


def check_program(program):
    """Raises what is due for what is no program."""
    if not is_program(program):
        raise BadProgram()


def tour(floor, corner, program):
    """The walker at the end of a walk, and the list of the corners on its way."""
    check_floor(floor)
    if not floor.has_corner(corner):
        raise NoCorner(corner)
    check_program(program)
    walker = started(corner, program)
    corners = [corner]
    while is_looking(walker):
        walker = answered(walker, floor.has_corner(looked_at(walker)))
        if walker[0] != corners[-1]:
            corners.append(walker[0])
    return (walker, corners)


def walk(floor, corner, program):
    """The tuple (corner, heading, gone) at the end of a walk."""
    walker, corners = tour(floor, corner, program)
    return walker[:3]


def trail(floor, corner, program):
    """The list of the corners of a walk, the first one and that behind each step."""
    walker, corners = tour(floor, corner, program)
    return corners
