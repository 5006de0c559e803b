import copy
import time
import unittest
from itertools import combinations, product

import exact
import judges
import surds
from heaplets import APART, THREE, ZERO, bad_heaps, moved, some_heap, tiles_of
from samples import HUGE, odd_things, odd_tuples, seeded, some_corner
from test_floors import SHIFTS, bad_sizes
from test_tiles import WAYS, bad_tiles

from threetiles.corners import star
from threetiles.errors import BadHeap, BadKind, BadSize, BadTile, EmptyHeap, FloorError, NotHeld
from threetiles.floors import Floor
from threetiles.kinds import kind_lot, kinds, share_of, share_with, surroundings
from threetiles.lots import window
from threetiles.pieces import Piece
from threetiles.points import taken
from threetiles.roots import Root
from threetiles.words import word

R = Root(0, 1, 1)
WHOLE = Root(2, 2, 1)


def all_tuples():
    """All ascending tuples of unlike directions."""
    return [kind for many in range(9) for kind in combinations(range(8), many)]


def window_rows(way=ZERO):
    """The bounds of the window, less the star of a way."""
    most = [surds.HALF + surds.H, surds.Surd(1) + surds.H]
    return [(d, most[d % 2] - surds.toward(d, surds.star_of(way))) for d in range(8)]


def kind_area(kind):
    """The area of the points of the window at which corners are of a kind."""
    polygon = surds.window_polygon()
    others = []
    for d in range(8):
        rows = window_rows(exact.moved(ZERO, d))
        if d in kind:
            polygon = surds.met(polygon, rows)
        else:
            others.append(rows)
    return surds.area_left(polygon, others)


def bad_kinds():
    """What is no ascending tuple of unlike directions."""
    # The tuples () and (0,) are ascending ones of unlike directions.
    found = odd_things() + [thing for thing in odd_tuples() if thing not in ((), (0,))]
    return found + [
        [], [0, 1], (1, 0), (0, 0), (0, 1, 1), (0, 8), (-1, 0), (8,), (True,), (False,), (False, 1), (0, True), (0, "1"),
        (0, None), (Root(0, 0, 1),), (0, Root(1, 0, 1)), ((0,),), (0, 1, 2, 3, 4, 5, 6, 7, 8), (7, 6), (HUGE,), 0, "01",
        (0, [1]), ([0], 1), ({}, 1), range(3), (0, 1, 2, 3, 4, 5, 7, 6),
    ]


class TestKinds(unittest.TestCase):
    def test_example(self):
        self.assertEqual([share == Root(17, -12, 1) for kind, share in kinds() if len(kind) == 8], [True])

    def test_all_with_their_shares(self):
        told = kinds()
        self.assertIs(type(told), list)
        areas = {}
        for kind in all_tuples():
            # Turned by an eighth, directions have their stars turned by three eighths, as the window may be.
            least = min([tuple(sorted([(d + more) % 8 for d in kind])) for more in range(8)])
            areas[kind] = areas[least] if least in areas else kind_area(kind)
        expected = [kind for kind in sorted(areas) if areas[kind] > 0]
        self.assertEqual([kind for kind, share in told], expected)
        for part in told:
            self.assertIs(type(part), tuple)
            kind, share = part
            self.assertIs(type(kind), tuple)
            self.assertIs(type(share), Root)
            self.assertEqual(surds.surd(share * WHOLE), areas[kind])

    def test_sum_to_1(self):
        total = Root(0, 0, 1)
        for kind, share in kinds():
            total = total + share
            self.assertEqual(share.sign(), 1)
        self.assertEqual(total, 1)

    def test_the_same_share_turned_and_mirrored(self):
        shares = kinds()
        told = {kind: share for kind, share in shares}
        for kind, share in shares:
            self.assertEqual(told[tuple(sorted([(d + 1) % 8 for d in kind]))], share)
            self.assertEqual(told[tuple(sorted([-d % 8 for d in kind]))], share)

    def test_corners_of_floors_are_of_these(self):
        told = dict(kinds())
        seen = {}
        for shift in SHIFTS:
            floor = Floor(shift)
            for corner in floor.near((0, 0), 9):
                kind = floor.sides(corner)
                self.assertIn(kind, told)
                seen[kind] = seen.get(kind, 0) + 1
        # The kinds come about as often as they should.
        many = sum(seen.values())
        for length in range(3, 9):
            share = sum([float_of(part) for kind, part in told.items() if len(kind) == length])
            found = sum([times for kind, times in seen.items() if len(kind) == length])
            self.assertLess(abs(found / many - share), 0.03)

    def test_a_new_list(self):
        told = kinds()
        again = kinds()
        self.assertEqual(told, again)
        self.assertIsNot(told, again)
        told.clear()
        self.assertEqual(kinds(), again)


def float_of(number):
    return (number.top + number.root * 2 ** 0.5) / number.bottom


class TestKindLot(unittest.TestCase):
    def test_areas_sum_to_the_share(self):
        for kind, share in kinds():
            lot = kind_lot(kind)
            self.assertIs(type(lot), list)
            total = Root(0, 0, 1)
            for piece in lot:
                self.assertIsInstance(piece, Piece)
                self.assertFalse(piece.is_empty())
                self.assertTrue(piece.within(window()))
                total = total + piece.area()
                # Each of these is within the window moved, for the sides of the kind, and apart from it for the others.
                polygon = surds.polygon_of(piece)
                for d in range(8):
                    rows = window_rows(exact.moved(ZERO, d))
                    if d in kind:
                        self.assertTrue(surds.lies_in(polygon, rows))
                    else:
                        self.assertEqual(surds.met(polygon, rows), [])
            self.assertEqual(total, share * WHOLE)
            for one, other in combinations(lot, 2):
                self.assertTrue(one.met(other).is_empty())

    def test_points_of_corners(self):
        lots = [(kind, kind_lot(kind)) for kind, share in kinds()]
        for shift in SHIFTS[1:4]:
            floor = Floor(shift)
            for corner in floor.near((1, 1), 4):
                point = taken(star(corner), shift)
                owners = [kind for kind, lot in lots for piece in lot if piece.has(point)]
                self.assertEqual(owners, [floor.sides(corner)])

    def test_no_kinds(self):
        told = [kind for kind, share in kinds()]
        nones = [kind for kind in all_tuples() if kind not in told]
        self.assertIn((), nones)
        self.assertIn((0, 4), nones)
        self.assertGreater(len(nones), 150)
        for kind in nones[::9] + [(), (0,), (0, 4), (0, 1, 2), (0, 1, 2, 3, 4)]:
            self.assertEqual(kind_lot(kind), [])
            self.assertIs(type(kind_lot(kind)), list)

    def test_wrong(self):
        for thing in bad_kinds():
            with self.assertRaises(BadKind) as caught:
                kind_lot(thing)
            self.assertIs(caught.exception.kind, thing)
            self.assertIsInstance(caught.exception, FloorError)

    def test_a_new_list(self):
        for kind in [(0, 3, 5), (), (0, 1, 2, 3, 4, 5, 6, 7)]:
            told = kind_lot(kind)
            again = kind_lot(kind)
            self.assertEqual(told, again)
            self.assertIsNot(told, again)
            told.append(None)
            self.assertEqual(kind_lot(kind), again)


class TestSurroundings(unittest.TestCase):
    def test_no_step(self):
        self.assertEqual(surroundings(0), [((ZERO,), Root(1, 0, 1))])
        self.assertIs(type(surroundings(0)[0][1]), Root)

    def test_one_step(self):
        told = surroundings(1)
        self.assertIs(type(told), list)
        expected = {}
        for kind, share in kinds():
            near = [ZERO] + [exact.moved(ZERO, d) for d in kind]
            expected[tuple(sorted(near))] = share
        self.assertEqual([around for around, share in told], sorted(expected))
        for around, share in told:
            self.assertEqual(share, expected[around])
            self.assertIs(type(around), tuple)
        total = Root(0, 0, 1)
        for around, share in told:
            total = total + share
        self.assertEqual(total, 1)

    def test_of_floors(self):
        told = dict(surroundings(1))
        floor = Floor(SHIFTS[2])
        for corner in floor.near((0, 0), 5):
            near = [part for ring in floor.around(corner, 1) for part in ring]
            self.assertIn(tuple(sorted([tuple([a - b for a, b in zip(part, corner)]) for part in near])), told)

    def test_wrong(self):
        for thing in bad_sizes(1) + [True, False, 2, -1]:
            with self.assertRaises(BadSize) as caught:
                surroundings(thing)
            self.assertIs(caught.exception.size, thing)

    def test_a_new_list(self):
        for steps in (0, 1):
            told = surroundings(steps)
            again = surroundings(steps)
            self.assertEqual(told, again)
            self.assertIsNot(told, again)
            told.clear()
            self.assertEqual(surroundings(steps), again)


def share_by_area(heap):
    """The share of a heap with tiles: the corner, and with it the window, is moved against the heap's piece."""
    polygon = surds.heap_polygon(heap)
    if not polygon:
        return surds.Surd(0)
    # The shift, less the star of the corner, is -p for a p of the window, which looks the same as -p.
    return surds.area(surds.met(polygon, window_rows())) / surds.Surd(2, 2)


class TestShareOf(unittest.TestCase):
    def test_empty_heap(self):
        for heap in ([], ()):
            self.assertEqual(share_of(heap), 1)
            self.assertIs(type(share_of(heap)), Root)

    def test_heaps_that_no_floor_has(self):
        for heap in (THREE, tuple(APART), THREE * 5):
            self.assertEqual(share_of(heap), 0)
            self.assertIs(type(share_of(heap)), Root)

    def test_tiles(self):
        # A tile at its own corner: its lozenge lies within the window.
        for i, j in WAYS:
            self.assertEqual(share_of([(ZERO, i, j)]) * WHOLE, 1 if j - i == 2 else Root(0, 1, 2))
            self.assertEqual(surds.surd(share_of([(ZERO, i, j)])), share_by_area([(ZERO, i, j)]))

    def test_some(self):
        dice = seeded(181)
        seen = {True: 0, False: 0}
        for turn in range(60):
            tiles = tiles_of(Floor(SHIFTS[turn % 5]), (0, 0), 4)
            heap = moved(some_heap(dice, tiles, 4), some_corner(dice, turn % 3))
            told = share_of(heap)
            self.assertEqual(surds.surd(told), share_by_area(heap))
            self.assertEqual(share_of(tuple(heap)), told)
            seen[told == 0] += 1
        self.assertGreater(min(seen.values()), 5, seen)

    def test_counted_in_a_floor(self):
        # Of the corners of a floor about so many have the heap, moved by them, in it.
        floor = Floor(SHIFTS[1])
        corners = floor.near((0, 0), 12)
        for heap in ([(ZERO, 0, 1)], [(ZERO, 0, 2), (ZERO, 2, 3)], [((1, 0, 0, 0), 1, 3)]):
            many = sum([judges.has_all(SHIFTS[1], moved(heap, corner)) for corner in corners])
            self.assertLess(abs(many / len(corners) - float_of(share_of(heap))), 0.04)

    def test_wrong(self):
        for heap, index in bad_heaps():
            with self.assertRaises(BadHeap) as caught:
                share_of(heap)
            self.assertEqual(caught.exception.index, index)

    def test_nothing_changes(self):
        heap = THREE[:2]
        kept = copy.deepcopy(heap)
        self.assertEqual(share_of(heap), share_of(heap))
        self.assertEqual(share_with(heap, THREE[2]), share_with(heap, THREE[2]))
        self.assertEqual(heap, kept)


class TestShareWith(unittest.TestCase):
    def test_sure_and_never(self):
        heap = [(ZERO, 1, 3)]
        self.assertEqual(share_with(heap, (ZERO, 1, 3)), 1)
        self.assertEqual(share_with(heap, (ZERO, 0, 2)), 0)
        self.assertEqual(share_with(THREE[:2], THREE[2]), 0)
        for told in (share_with(heap, heap[0]), share_with(heap, (ZERO, 0, 2)), share_with(heap, (ZERO, 0, 1))):
            self.assertIs(type(told), Root)

    def test_some(self):
        dice = seeded(182)
        seen = {"sure": 0, "never": 0, "open": 0}
        for turn in range(60):
            tiles = tiles_of(Floor(SHIFTS[turn % 5]), (0, 0), 3)
            heap = some_heap(dice, tiles, (1, 3, 8)[turn % 3])
            for tile in (dice.choice(tiles), (some_corner(dice, 1), *dice.choice(WAYS))):
                told = share_with(heap, tile)
                polygon = surds.heap_polygon(heap)
                part = surds.area(surds.met(polygon, surds.sides_of_lozenge(tile)))
                self.assertEqual(surds.surd(told), part / surds.area(polygon))
                self.assertEqual(share_with(tuple(heap), tile), told)
                said = word(heap, tile)[0]
                seen[said] += 1
                self.assertEqual({"sure": told == 1, "never": told == 0}.get(said, told.sign() == 1 and told.less(1)), True)
        self.assertGreater(min(seen.values()), 5, seen)

    def test_all_tiles_over_a_corner(self):
        # Of the tiles that lie over one eighth of the round at a sure corner each floor has one.
        heap = [(ZERO, 1, 3)]
        total = Root(0, 0, 1)
        for i, j in WAYS:
            for a, b in product((0, 1), (0, 1)):
                own = ZERO
                for k, back in ((i, a), (j, b)):
                    own = exact.moved(own, k + 4) if back else own
                ways = sorted([i + 4 * a, j + 4 * b])
                one, other = ways if ways[1] - ways[0] < 4 else ways[::-1]
                if (4 - one) % 8 < (other - one) % 8:
                    total = total + share_with(heap, (own, i, j))
        self.assertEqual(total, 1)

    def test_wrong(self):
        for heap, index in bad_heaps():
            for tile in (None, (ZERO, 0, 1)):
                with self.assertRaises(BadHeap) as caught:
                    share_with(heap, tile)
                self.assertEqual(caught.exception.index, index)
        for tile in (None, (ZERO, 0, 1)):
            for heap in ([], ()):
                with self.assertRaises(EmptyHeap):
                    share_with(heap, tile)
            for heap in (THREE, tuple(APART)):
                with self.assertRaises(NotHeld):
                    share_with(heap, tile)
        for tile in bad_tiles():
            with self.assertRaises(BadTile) as caught:
                share_with(THREE[:2], tile)
            self.assertIs(caught.exception.tile, tile)

    def test_in_time(self):
        begin = time.monotonic()
        for _ in range(3):
            kinds()
            surroundings(1)
            kind_lot((0, 3, 5))
        tiles = tiles_of(Floor((0, 0)), (0, 0), 4)[:40]
        share_of(tiles)
        share_with(tiles, tiles[0])
        self.assertLess(time.monotonic() - begin, 10)


if __name__ == "__main__":
    unittest.main()
