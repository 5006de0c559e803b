"""Each argument for which the document names an error, with objects of all sorts; each judge with such things, too."""

import unittest

from heaplets import THREE, ZERO
from samples import HUGE, nested, odd_things, odd_tuples
from walking import GO, TOO_LONG

from threetiles import (
    absents, asking, bars, copies, corners, desks, errors, floors, greater, heaps, kinds, leasts, lots, moving, outcomes,
    pieces, programs, ribbons, roots, slides, strangers, texts, tiles, walkers, words)
from threetiles.errors import (
    BadAbsent, BadAsked, BadBounds, BadCorner, BadDirection, BadFloor, BadHeap, BadKind, BadLot, BadNumber, BadPiece, BadPoint,
    BadPrices, BadProgram, BadRibbon, BadRibbons, BadShift, BadSide, BadSize, BadText, BadTile, FloorError)

FLOOR = floors.Floor((0, 0))
TILE = (ZERO, 0, 1)
WINDOW = lots.window()
ROW = [(0, 1), (4, 1)]
DESK = desks.Desk()
ROOT = roots.Root(1, 2, 3)
RIBBONS = [(0, 0), (1, 0), (2, 0)]
SQUARE = [(ZERO, 1, 3)]

# Functions with right arguments, and the errors of the arguments that have one, by places. A number behind an error is
# what it keeps instead of the argument.
CALLS = [
    (roots.Root, (1, 2, 3), {0: BadNumber, 1: BadNumber, 2: BadNumber}),
    (ROOT.over, (2,), {0: BadNumber}), (ROOT.less, (2,), {0: BadNumber}),
    (corners.stepped, (ZERO, 0, 1), {0: BadCorner, 1: BadDirection}),
    (corners.place, (ZERO,), {0: BadCorner}), (corners.star, (ZERO,), {0: BadCorner}),
    (corners.corner_at, ((0, 0),), {0: BadPoint}), (corners.corner_with, ((0, 0),), {0: BadPoint}),
    (corners.turned, (ZERO, 1), {0: BadCorner}), (corners.mirrored, (ZERO,), {0: BadCorner}),
    (corners.greater, (ZERO,), {0: BadCorner}), (corners.lesser, (ZERO,), {0: BadCorner}),
    (floors.barred, ((0, 0),), {0: BadPoint}), (floors.Floor, ((0, 0),), {0: BadPoint}),
    (FLOOR.has_corner, (ZERO,), {0: BadCorner}), (FLOOR.sides, (ZERO,), {0: BadCorner}),
    (FLOOR.tiles_at, (ZERO,), {0: BadCorner}), (FLOOR.has_tile, (TILE,), {0: BadTile}),
    (FLOOR.across, (TILE, 0), {0: BadTile, 1: BadSide}), (FLOOR.near, ((0, 0), 1), {0: BadPoint, 1: BadSize}),
    (FLOOR.tiles_over, ((0, 0),), {0: BadPoint}), (FLOOR.around, (ZERO, 1), {0: BadCorner, 1: BadSize}),
    (tiles.tile_corners, (TILE,), {0: BadTile}), (tiles.ribbons_of, (TILE,), {0: BadTile}),
    (pieces.Piece, (ROW,), {0: (BadBounds, -1)}), (WINDOW.parted, ((0, 1),), {0: (BadBounds, 0)}),
    (bars.bars, (ROW,), {0: (BadBounds, -1)}), (bars.press, (ROW, (0, 1)), {0: (BadBounds, -1), 1: (BadBounds, -2)}),
    (lots.left_of, (WINDOW, [WINDOW]), {0: (BadLot, -2), 1: (BadLot, -1)}),
    (lots.covered, (WINDOW, [WINDOW]), {0: (BadLot, -2), 1: (BadLot, -1)}),
    (lots.lozenge, (TILE,), {0: BadTile}), (lots.tile_bounds, (TILE,), {0: BadTile}),
    (heaps.heap_piece, (SQUARE,), {0: (BadHeap, -1)}), (heaps.held, (SQUARE,), {0: (BadHeap, -1)}),
    (words.word, (SQUARE, TILE), {0: (BadHeap, -1), 1: BadTile}), (words.word_in, (WINDOW, TILE), {1: BadTile}),
    (words.possible, (SQUARE, (0, 0), 1), {0: (BadHeap, -1), 1: BadPoint, 2: BadSize}),
    (words.nearest_open, (SQUARE, (0, 0), 1), {0: (BadHeap, -1), 1: BadPoint, 2: BadSize}),
    (leasts.least_lots, (SQUARE, SQUARE[0]), {0: (BadHeap, -1), 1: BadTile}),
    (leasts.cheapest_lot, (SQUARE, [1], SQUARE[0]), {0: (BadHeap, -1), 1: (BadPrices, None), 2: BadTile}),
    (absents.with_absent, (SQUARE, [TILE]), {0: (BadHeap, -1), 1: (BadAbsent, -1)}),
    (ribbons.crossing, (FLOOR, (0, 0), (1, 0)), {0: BadFloor, 1: BadRibbon, 2: BadRibbon}),
    (ribbons.along, (FLOOR, (0, 0), TILE, 1), {0: BadFloor, 1: BadRibbon, 2: BadTile, 3: BadSize}),
    (ribbons.far_along, (FLOOR, (0, 0), TILE, TILE), {0: BadFloor, 1: BadRibbon, 2: BadTile, 3: BadTile}),
    (ribbons.side_of, (FLOOR, (0, 0), (1, 0), (2, 0)), {0: BadFloor, 1: BadRibbon, 2: BadRibbon, 3: BadRibbon}),
    (ribbons.side_word, (SQUARE, (0, 0), (1, 0), (2, 0)), {0: (BadHeap, -1), 1: BadRibbon, 2: BadRibbon, 3: BadRibbon}),
    (ribbons.side_bound, ((0, 0), (1, 0), (2, 0)), {0: BadRibbon, 1: BadRibbon, 2: BadRibbon}),
    (slides.slides, ((0, 0), (1, 1), RIBBONS), {0: (BadShift, 0), 1: (BadShift, 1), 2: (BadRibbons, -1)}),
    (copies.heap_moved, (SQUARE, ZERO), {0: (BadHeap, -1), 1: BadCorner}),
    (copies.copies, (FLOOR, SQUARE, (0, 0), 1), {0: BadFloor, 1: (BadHeap, -1), 2: BadPoint, 3: BadSize}),
    (copies.nearest_copy, (FLOOR, SQUARE, (0, 0), 1), {0: BadFloor, 1: (BadHeap, -1), 2: BadPoint, 3: BadSize}),
    (copies.reach, (SQUARE, 1), {0: (BadHeap, -1), 1: BadSize}),
    (kinds.kind_lot, ((0, 3, 5),), {0: BadKind}), (kinds.surroundings, (1,), {0: BadSize}),
    (kinds.share_of, (SQUARE,), {0: (BadHeap, -1)}), (kinds.share_with, (SQUARE, TILE), {0: (BadHeap, -1), 1: BadTile}),
    (programs.walk, (FLOOR, ZERO, (GO,)), {0: BadFloor, 1: BadCorner, 2: (BadProgram, None)}),
    (programs.trail, (FLOOR, ZERO, (GO,)), {0: BadFloor, 1: BadCorner, 2: (BadProgram, None)}),
    (outcomes.outcomes, ((GO,),), {0: (BadProgram, None)}), (outcomes.ends, ((GO,),), {0: (BadProgram, None)}),
    (outcomes.goings, ((GO,),), {0: (BadProgram, None)}), (outcomes.farthest, ((GO,),), {0: (BadProgram, None)}),
    (outcomes.kinds_led, ((GO,),), {0: (BadProgram, None)}),
    (walkers.alike, ((GO,), ()), {0: (BadProgram, None), 1: (BadProgram, None)}),
    (walkers.meeting, ((GO,), ()), {0: (BadProgram, None), 1: (BadProgram, None)}),
    (walkers.needless, ((GO,),), {0: (BadProgram, None)}), (walkers.comes_home, ((GO,),), {0: (BadProgram, None)}),
    (greater.greater_floor, (FLOOR,), {0: BadFloor}), (greater.lesser_floor, (FLOOR,), {0: BadFloor}),
    (greater.led_up, (FLOOR, 1), {0: BadFloor, 1: BadSize}), (greater.lowered, (WINDOW, 1), {0: BadPiece, 1: BadSize}),
    (greater.stands, (FLOOR, ZERO), {0: BadFloor, 1: BadCorner}),
    (greater.seam, (FLOOR, ZERO, 0), {0: BadFloor, 1: BadCorner, 2: BadDirection}),
    (moving.moved_by, (FLOOR, FLOOR), {0: BadFloor, 1: BadFloor}),
    (moving.parting_tile, (FLOOR, FLOOR, (0, 0), 1), {0: BadFloor, 1: BadFloor, 2: BadPoint, 3: BadSize}),
    (moving.floor_moved, (FLOOR, ZERO), {0: BadFloor, 1: BadCorner}),
    (moving.floor_turned, (FLOOR, 1), {0: BadFloor, 1: BadSize}),
    (moving.floor_mirrored, (FLOOR,), {0: BadFloor}), (moving.symmetries, (FLOOR,), {0: BadFloor}),
    (asking.asks, (SQUARE, [TILE], TILE), {0: (BadHeap, -1), 1: (BadAsked, -1), 2: BadTile}),
    (strangers.refuted, (FLOOR.has_tile, ZERO, 1), {1: BadCorner, 2: BadSize}),
    (desks.Desk().tell, (TILE,), {0: BadTile}), (desks.Desk().deny, (TILE,), {0: BadTile}), (DESK.word, (TILE,), {0: BadTile}),
    (texts.number_text, (3,), {0: BadNumber}), (texts.write_heap, (SQUARE,), {0: (BadHeap, -1)}),
    (texts.write_floor, (FLOOR,), {0: BadFloor}), (texts.write_program, ((GO,),), {0: (BadProgram, None)}),
    (texts.read_number, ("3",), {0: (BadText, -1)}), (texts.read_heap, ("",), {0: (BadText, -1)}),
    (texts.read_floor, ("floor 0 0",), {0: (BadText, -1)}), (texts.read_program, ("go",), {0: (BadText, -1)}),
]
JUDGES = [
    (bars.is_bars, (ROW,)), (bars.is_press, (ROW, (0, 1))), (heaps.is_held, (SQUARE,)), (words.is_word, (SQUARE, TILE)),
    (absents.is_tree, (SQUARE, [TILE])), (slides.is_slides, ((0, 0), (5, 5), RIBBONS)), (copies.is_reach_lot, (SQUARE,)),
    (outcomes.is_outcomes, ((GO,),)), (walkers.is_alike, ((GO,), ())), (asking.is_plan, (SQUARE, [TILE], TILE)),
]
WORDS = ["floor", "bars", "never", "sure", "open", "split", "alike", "apart", "yes", "no", "ask", "go", "turn", "again"]


def things():
    """Objects that are right for no argument of the table, but for rows, texts and whole numbers."""
    return odd_things() + [thing for thing in odd_tuples() if len(thing) != 2] + [
        ROOT, WINDOW, FLOOR, DESK, desks.Desk, floors.Floor, errors.Clash(("bars", ())), errors.BadFloor(FLOOR), GO, (GO, 1),
        ("word", nested(17)), [DESK, FLOOR, ROOT, WINDOW], {"x": [DESK]}, (FLOOR,), (WINDOW, WINDOW, WINDOW), (DESK, 0),
        range(10), "tile", "\n", bytes(4), HUGE, -HUGE, TOO_LONG, nested(19), tuple(nested(18)), (nested(18),), DESK.trying]


def may_be_right(error, thing):
    """Whether a thing may be passed for an argument with an error, or a part of it is told wrong instead."""
    if error in (BadNumber, BadPoint):
        return isinstance(thing, (roots.Root, int)) and not isinstance(thing, bool)
    if error in (BadSize, BadSide, BadDirection):
        # Numbers of very many digits are right for floor_turned alone.
        return error is BadSize and isinstance(thing, int) and abs(thing) == HUGE
    if error is BadFloor:
        return thing is FLOOR
    if error is BadPiece:
        return thing is WINDOW
    if error is BadKind or error is BadProgram:
        return isinstance(thing, tuple)
    if error is BadText:
        return isinstance(thing, str)
    if error is BadLot:
        return isinstance(thing, (pieces.Piece, list, tuple))
    return error in (BadHeap, BadBounds, BadAbsent, BadAsked, BadRibbons, BadPrices) and isinstance(thing, (list, tuple))


class TestArguments(unittest.TestCase):
    def test_right_ones(self):
        for function, arguments, wrong in CALLS:
            function(*arguments)
        for judge, arguments in JUDGES:
            self.assertIs(judge(*arguments, None), False)

    def test_each_wrong_argument(self):
        for function, arguments, wrong in CALLS:
            for place, error in wrong.items():
                error, kept = error if isinstance(error, tuple) else (error, Ellipsis)
                for thing in things():
                    if not may_be_right(error, thing):
                        self.assert_raises(function, [*arguments[:place], thing, *arguments[place + 1:]], error, kept, thing)

    def assert_raises(self, function, arguments, error, kept, thing):
        with self.assertRaises(FloorError) as caught:
            function(*arguments)
        self.assertIs(type(caught.exception), error)
        self.assertIs(error.__bases__[0], FloorError)
        told = list(vars(caught.exception).values())
        if kept is Ellipsis:
            self.assertEqual(len(told), 1)
            self.assertIs(told[0], thing)
        else:
            self.assertEqual(told, [] if kept is None else [kept])

    def test_the_first_one_is_told(self):
        # Of several wrong arguments the one that stands ahead is told.
        for function, arguments, wrong in CALLS:
            places = sorted(wrong)
            for place, other in zip(places, places[1:]):
                first = wrong[place] if not isinstance(wrong[place], tuple) else wrong[place][0]
                both = list(arguments)
                both[place], both[other] = None, {}
                with self.assertRaises(first) as caught:
                    function(*both)
                told = list(vars(caught.exception).values())
                self.assertTrue(not told or told[0] is None or told[0] in (-1, -2, 0, 1))

    def test_judges(self):
        for judge, arguments in JUDGES:
            for thing in things() + [3, 0, -1, (), [], ((),), [()], (0, 0), ZERO, THREE, TILE]:
                if judge is slides.is_slides and thing == [] or judge is copies.is_reach_lot and isinstance(thing, tuple):
                    continue
                self.assertIs(judge(*arguments, thing), False)
                for word in WORDS:
                    for paper in [(word, thing), (word, thing, thing), (word, 0, thing), (word, 0, thing, thing), [word, thing],
                                  (word, [thing]), (word, (thing,)), (word, 0, (thing, thing, thing, thing)), [(thing, thing)]]:
                        self.assertIs(type(judge(*arguments, paper)), bool)

    def test_is_program_and_is_point(self):
        from threetiles.points import is_point
        for thing in things():
            self.assertIs(programs.is_program(thing), thing == () or thing is TOO_LONG)
            self.assertIs(is_point(thing), False)
            self.assertIs(is_point((thing, 0)), isinstance(thing, (roots.Root, int)) and not isinstance(thing, bool))

    def test_equal_to_nothing_else(self):
        for one in (ROOT, FLOOR, WINDOW, DESK, errors.BadFloor(FLOOR)):
            for thing in things():
                if one is not thing:
                    self.assertIs(one == thing, False)
                    self.assertIs(one != thing, True)


if __name__ == "__main__":
    unittest.main()
