"""A second reckoning of walkers, told by the words of the document, and programs for several tests."""

from functools import lru_cache
from itertools import combinations

import exact
import surds
from samples import HUGE, nested, odd_things

from threetiles.lots import window
from threetiles.pieces import Piece
from threetiles.roots import Root

ZERO = (0, 0, 0, 0)
GO = ("go",)
# To the next corner ahead and home again, looking as before.
THERE = (GO, ("turn", 4), GO, ("turn", 4))


def turn(n):
    return ("turn", n)


def ask(n, one=(), other=()):
    return ("ask", n, one, other)


def again(n, *block):
    return ("again", n, block)


def wandering(turns):
    """Turns, each with a go behind it."""
    return tuple([part for n in turns for part in (turn(n), GO)])


# Looks all around, with a turn for each side that leaves.
ALL_AROUND = tuple([ask(n, (turn(1),)) for n in range(8)])
# All with at most 20 looks.
PROGRAMS = [
    (), (GO,), (turn(7),), (turn(3), turn(5)), (GO, turn(4), GO), (ask(0), ask(3)), (ask(0, THERE),),
    (ask(5, (GO,), (turn(2), GO)), turn(1), GO), (again(20, GO),), (again(5, GO, turn(3)),),
    (again(4, ask(1, (turn(1), GO), (ask(7, (turn(7), GO), (turn(4),)),)), turn(6)),),
    (again(2, again(3, GO, turn(1)), turn(5)), ask(2, (again(2, GO),), (again(0, GO), turn(3)))),
    (again(60, turn(7)), GO, again(0, GO), ask(2, (), (GO,))), ALL_AROUND, ALL_AROUND + (GO,),
    (again(8, GO, turn(1)), ask(0)), wandering([1, 2, 5, 1]),
]
# With 20 looks, and many unlike answers.
LONG = [
    (again(20, GO, turn(3)),), (again(4, *wandering([6, 1, 0, 7, 1])),),
    wandering([0, 1, 3, 6, 7, 7, 0, 6, 3, 1, 7, 0, 3, 6, 0, 7, 4, 6, 7, 2]),
]
# With more looks just 400 unlike answers come, one more, and far more.
JUST_400 = (again(6, *wandering([3, 0, 6, 1, 2, 7, 1, 3])),)
ONE_MORE = (again(7, *wandering([2, 2, 6, 3, 4])),)
TOO_LONG = (again(8, *wandering([2, 1, 6, 1, 7])),)


def run(see, corner, heading, gone, block):
    """The tuple (corner, heading, gone) behind a block; see tells whether there is a corner."""
    for word, *more in block:
        if word == "turn":
            heading = (heading + more[0]) % 8
        elif word == "go":
            ahead = exact.moved(corner, heading)
            if see(ahead):
                corner, gone = ahead, gone + 1
        elif word == "ask":
            there = see(exact.moved(corner, (heading + more[0]) % 8))
            corner, heading, gone = run(see, corner, heading, gone, more[1] if there else more[2])
        else:
            for _ in range(more[0]):
                corner, heading, gone = run(see, corner, heading, gone, more[1])
    return (corner, heading, gone)


def walk_in(shift, corner, program):
    return run(lambda other: exact.has_corner(shift, other), corner, 0, 0, program)


def window_rows(way=ZERO):
    """The bounds of the window, less the star of a way."""
    most = [surds.HALF + surds.H, surds.Surd(1) + surds.H]
    return [(d, most[d % 2] - surds.toward(d, surds.star_of(way))) for d in range(8)]


def in_rows(point, rows):
    return all([surds.toward(d, point) < number for d, number in rows])


def walk_at(point, program):
    """The outcome from a corner at a point of the window."""
    return run(lambda other: in_rows(point, window_rows(other)), ZERO, 0, 0, program)


class Torn(Exception):
    """A look finds a side at some points of a polygon alone; rows are the bounds with which it does."""

    def __init__(self, rows):
        self.rows = rows


def split(polygon, rows):
    """The polygon of what rows of bounds let of one, and those of the rest."""
    rest = []
    for row in rows:
        beyond = surds.met(polygon, [surds.beyond(row)])
        if beyond:
            rest.append(beyond)
        polygon = surds.met(polygon, [row])
    return polygon, rest


def see_from(polygon, other):
    rows = window_rows(other)
    if surds.lies_in(polygon, rows):
        return True
    if surds.met(polygon, rows):
        raise Torn(rows)
    return False


def told_over(polygon, program):
    """A list of (polygon, outcome, answers), with all of a polygon; answers may be alike in several."""
    waiting, found = [polygon], []
    while waiting:
        some = waiting.pop()
        answers = []

        def see(other):
            answers.append(see_from(some, other))
            return answers[-1]
        try:
            outcome = run(see, ZERO, 0, 0, program)
            found.append((some, outcome, tuple(answers)))
        except Torn as torn:
            inside, outside = split(some, torn.rows)
            waiting.extend([inside] + outside)
    return found


@lru_cache(maxsize=None)
def told_in_window(program):
    return told_over(surds.window_polygon(), program)


def shares_over(program, key):
    """The shares of the corners by a key of their outcomes."""
    areas = {}
    for polygon, outcome, answers in told_in_window(program):
        areas[key(outcome)] = areas.get(key(outcome), surds.Surd(0)) + surds.area(polygon)
    return {told: areas[told] / surds.Surd(2, 2) for told in areas}


EMPTY = Piece([(0, 0), (4, 0)])


def bad_lot_of(lot):
    """What comes of a right list of pieces by spoiling it."""
    piece = lot[-1]
    left, right = piece.parted((0, piece.bounds[0] - Root(1, 0, 10 ** 9)))
    found = [tuple(lot), lot[:-1], lot[1:], lot + [None], lot + [lot[0]], lot + [EMPTY], [EMPTY] + lot, lot + [right],
             lot + [lot[0].grown(Root(1, 0, 2))], lot[:-1] + [left], lot[:-1] + [right], lot[:-1] + [EMPTY], [lot], (), []]
    for thing in (None, True, 0, piece.bounds, Piece([]), Piece([(0, 1)]), Piece(rows(piece)[1:]), window(), [piece],
                  piece.grown(2), piece.led((1, 0)), piece.led((Root(1, 0, 10 ** 9), 0)), piece.grown(-1), "piece", ZERO):
        if not (isinstance(thing, Piece) and thing == piece):
            found.append(lot[:-1] + [thing])
    return found


def rows(piece):
    return [(d, number) for d, number in enumerate(piece.bounds)]


def is_partition(pieces):
    """Whether Pieces with points, no two with a common one, lie within the window and have its area."""
    polygons = [surds.polygon_of(piece) for piece in pieces]
    if not all(polygons) or not all([surds.lies_in(polygon, window_rows()) for polygon in polygons]):
        return False
    total = surds.Surd(0)
    for polygon in polygons:
        total = total + surds.area(polygon)
    for (one, first), (other, second) in combinations(list(zip(pieces, polygons)), 2):
        if surds.met(first, surds.rows_of(other)):
            return False
    return total == surds.Surd(2, 2)


def deep(many):
    """A program with statements so many deep."""
    block = (GO,)
    for level in range(many - 1):
        block = (again(1, *block),) if level % 2 else (ask(level % 8, (), block),)
    return block


def bad_programs():
    """What is no program: first what is no statement where one should be, then what is no tuple where one should be."""
    flag_free = [thing for thing in odd_things()]
    wrong = flag_free + [
        (), ("go", 0), ("go", ()), (GO,), ("turn",), ("turn", -1), ("turn", 8), ("turn", True), ("turn", False),
        ("turn", "1"), ("turn", None), ("turn", Root(1, 0, 1)), ("turn", (1,)), ("turn", 1, 1), ("turn", HUGE),
        ("ask", 0, ()), ("ask", 0, (), (), ()), ("ask", 8, (), ()), ("ask", -1, (), ()), ("ask", True, (), ()),
        ("ask", (), ()), ("ask", 0, [], ()), ("ask", 0, (), []), ("ask", 0, GO, ()), ("ask", 0, (), GO),
        ("ask", 0, None, ()), ("ask", 0, (), None), ("ask", "0", (), ()), ("ask", 0, (GO, None), ()),
        ("again", 1), ("again", 61, ()), ("again", -1, ()), ("again", True, ()), ("again", 1, [], ()),
        ("again", 1, (), ()), ("again", 1, []), ("again", 1, GO), ("again", 1, None), ("again", "2", (GO,)),
        ("again", Root(2, 0, 1), ()), ("Go",), ("GO",), ("go ",), ("",), (b"go",), (None,), (0,), (["go"],), ("stop",),
        ("stop", 1), ("else",), ["go"], ["turn", 1], "go", 0, 1, ZERO, {"go": 1}, (("go",), ("go",)), nested(18),
        ("again", 0, (("turn", 8),)), ("again", 0, ("go",)), ("ask", 0, (), (("again", 1, ((),)),)),
        ("ask", 0, deep(6), ()), ("again", 1, deep(6)), ("again", 0, (GO,) * 60), ("ask", 0, (GO,) * 30, (GO,) * 30),
    ]
    found = [thing for thing in flag_free if thing != ()]
    found.extend([0, HUGE, Root(0, 0, 1), "", "go", [GO], [], {}, GO, (GO,) * 61, (GO,) * 5000, deep(7), deep(15)])
    for thing in wrong:
        found.extend([(thing,), (GO, thing, GO), (again(1, GO, ask(3, (), (GO, thing))),)])
    found.extend([(ask(0, (turn(1),) * 29, (turn(1),) * 30), again(1)), (again(3, *[again(0)] * 60),)])
    # Very many ways lead into this one.
    many = (GO,) * 60
    for _ in range(5):
        many = (again(1, *many),) * 60
    return found + [many]
