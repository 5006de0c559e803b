"""Walkers in a run: tuples (corner, heading, gone, left), left the statements that are still to be done."""

from threetiles.corners import step


def up_to_look(walker):
    """The walker when a look, by go or ask, comes next, or nothing does."""
    corner, heading, gone, left = walker
    while len(left) > 0 and left[0][0] in ("turn", "again"):
        statement = left[0]
        left = left[1:]
        if statement[0] == "turn":
            heading = (heading + statement[1]) % 8
        else:
            left = statement[2] * statement[1] + left
    return (corner, heading, gone, left)


def started(corner, program):
    """The walker that begins a program at a corner, as up_to_look."""
    return up_to_look((corner, 0, 0, program))


def is_looking(walker):
    """Whether a walker, as up_to_look, is not at its end."""
    return len(walker[3]) > 0


def looked_at(walker):
    """The corner whose side from here a walker looks for."""
    corner, heading, gone, left = walker
    if left[0][0] == "ask":
        heading = (heading + left[0][1]) % 8
    return step(corner, heading, 1)


def answered(walker, there):
    """The walker behind a look that found whether the side leaves, as up_to_look."""
    corner, heading, gone, left = walker
    statement = left[0]
    left = left[1:]
    if statement[0] == "ask":
        left = (statement[2] if there else statement[3]) + left
    elif there:
        corner = step(corner, heading, 1)
        gone = gone + 1
    return up_to_look((corner, heading, gone, left))
