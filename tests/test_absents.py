import copy
import time
import unittest

import exact
import judges
import surds
from heaplets import (
    APART, THREE, ZERO, bad_heap_rows, bad_heaps, bad_items, far_corner, heap_about, moved, some_heap, tiles_of)
from samples import odd_things, odd_tuples, seeded, some_corner
from test_floors import SHIFTS
from test_heaps import digits, random_heap
from test_tiles import WAYS

from threetiles.absents import is_tree, with_absent
from threetiles.corners import place
from threetiles.errors import BadAbsent, BadHeap, FloorError
from threetiles.floors import Floor
from threetiles.heaps import heap_piece, held
from threetiles.lots import tile_bounds
from threetiles.pieces import Piece
from threetiles.roots import Root
from threetiles.tiles import tile_corners
from threetiles.words import possible, word

R = Root(0, 1, 1)
FAR_STEP = (10 ** 20, 3, 5, -7)


def over_the_eighth(corner, eighth):
    """The six tiles at a corner that lie over the eighth of the round behind a direction."""
    found = []
    for i, j in WAYS:
        for own in (corner, exact.moved(corner, i + 4), exact.moved(corner, j + 4), exact.moved(exact.moved(corner, i + 4), j + 4)):
            ways = [d for d in range(8) if exact.moved(corner, d) in tile_corners((own, i, j)) and d % 4 in (i, j)]
            one, other = ways if (ways[1] - ways[0]) < 4 else ways[::-1]
            if (eighth - one) % 8 < (other - one) % 8:
                found.append((own, i, j))
    return sorted(found)


def is_floor(heap, absent, shift):
    return judges.is_let(shift) and judges.has_all(shift, heap) and not any(
        [judges.has_tile(shift, tile) for tile in absent])


def leaves(tree):
    return 1 if tree[0] == "bars" else sum([leaves(branch) for branch in tree[2]])


class TestWithAbsent(unittest.TestCase):
    def assert_right(self, heap, absent):
        told = with_absent(heap, absent)
        self.assertIs(type(told), tuple)
        self.assertEqual(len(told), 2)
        if told[0] == "floor":
            self.assertTrue(is_floor(heap, absent, told[1]), (heap, absent, told))
            self.assertTrue(all([type(number) is Root for number in told[1]]))
            self.assertLessEqual(digits(told[1]), 400)
        else:
            self.assertEqual(told[0], "tree")
            self.assertTrue(judges.is_tree(heap, absent, told[1]), (heap, absent, told))
            self.assertIs(is_tree(heap, absent, told[1]), True)
        return told

    def test_which_of_both(self):
        dice = seeded(141)
        seen = {"floor": 0, "tree": 0}
        for turn in range(60):
            floor = Floor(dice.choice(SHIFTS[:5]))
            heap = some_heap(dice, tiles_of(floor, (0, 0), 3), 5)
            tiles = [tile for tile, said in possible(heap, (0, 0), 1)]
            tiles = [tile for tile in tiles if dice.random() < 0.5 or word(heap, tile)[0] == "open"]
            absent = dice.sample(tiles, min(turn % 7, len(tiles)))
            told = self.assert_right(heap, absent)
            left = surds.area_left(surds.heap_polygon(heap), [surds.sides_of_lozenge(tile) for tile in absent])
            self.assertEqual(told[0], "floor" if left > 0 else "tree")
            self.assertEqual(with_absent(tuple(heap), tuple(absent)), told)
            seen[told[0]] += 1
        self.assertGreater(min(seen.values()), 15, seen)

    def test_absent_tiles_around_a_heap_of_a_floor(self):
        # What the floor has not got may be absent.
        dice = seeded(142)
        for _ in range(20):
            floor = Floor(dice.choice(SHIFTS[:5]))
            heap = some_heap(dice, tiles_of(floor, (0, 0), 3), 12)
            others = [tile for tile, said in possible(heap, (0, 0), 2) if said == "open" and not floor.has_tile(tile)]
            absent = dice.sample(others, min(6, len(others)))
            self.assertEqual(self.assert_right(heap, absent)[0], "floor")

    def test_none_absent(self):
        for absent in ([], ()):
            for heap in ([], (), APART[:1], THREE[:2], tuple(THREE[1:])):
                told = self.assert_right(heap, absent)
                self.assertEqual(told[0], "floor")
            for heap in (THREE, APART):
                kind, tree = self.assert_right(heap, absent)
                self.assertEqual(kind, "tree")
                self.assertEqual(tree[0], "bars")

    def test_heaps_that_no_floor_has(self):
        for absent in ([(ZERO, 0, 1)], APART, THREE * 2):
            kind, tree = self.assert_right(THREE, absent)
            self.assertEqual(kind, "tree")

    def test_absent_tiles_of_the_heap(self):
        dice = seeded(143)
        for _ in range(10):
            heap = some_heap(dice, tiles_of(Floor(dice.choice(SHIFTS[:5])), (0, 0), 2), 4)
            for absent in ([heap[0]], [(ZERO, 0, 2), heap[-1]], [heap[0]] * 6):
                kind, tree = self.assert_right(heap, absent)
                self.assertEqual(kind, "tree")
                self.assertEqual(tree[0], "split")

    def test_sure_tiles_are_not_absent(self):
        dice = seeded(144)
        for _ in range(8):
            floor = Floor(dice.choice(SHIFTS[:5]))
            heap = some_heap(dice, tiles_of(floor, (0, 0), 3), 12)
            for tile in tiles_of(floor, (0, 0), 2)[:5]:
                said = word(heap, tile)[0]
                self.assertEqual(self.assert_right(heap, [tile])[0], "tree" if said == "sure" else "floor")

    def test_tiles_that_are_never_there(self):
        heap = [(ZERO, 1, 3)]
        absent = [tile for tile in [((0, 0, 0, a), i, j) for a in range(-2, 3) for i, j in WAYS] if word(heap, tile)[0] == "never"][:6]
        self.assertEqual(len(absent), 6)
        self.assertEqual(self.assert_right(heap, absent)[0], "floor")

    def test_six_over_one_eighth(self):
        for eighth in range(8):
            six = over_the_eighth(ZERO, eighth)
            self.assertEqual(len(set(six)), 6)
            # Floors without the corner have none of the six.
            self.assertEqual(self.assert_right([], six)[0], "floor")
            seen = 0
            for shift in ((0, 0), (Root(1, 0, 3), Root(1, 0, 5)), (Root(-2, 0, 3), Root(1, 0, 7)), (Root(1, 0, 9), Root(-9, 0, 10))):
                floor = Floor(shift)
                for tile in floor.tiles_at(ZERO):
                    kind, tree = self.assert_right([tile], six)
                    self.assertEqual(kind, "tree")
                    seen = max(seen, leaves(tree))
                    if tile not in six:
                        # The floor has one of the six, and without it among the absent ones it fits.
                        there = [other for other in six if floor.has_tile(other)]
                        self.assertEqual(len(there), 1)
                        rest = [other for other in six if other not in there]
                        self.assertEqual(self.assert_right([tile], rest)[0], "floor")
            self.assertGreater(seen, 4)

    def test_in_two_places_far_apart(self):
        far = far_corner(60)
        floor = Floor((Root(1, 0, 3), Root(1, 0, 5)))
        heap = tiles_of(floor, (0, 0), 2)[:6]
        there = [tile for tile, said in possible(heap, place(far), 1) if said == "open"]
        self.assertGreater(len(there), 2)
        self.assert_right(heap, there[:6])
        for tile in there[:4]:
            self.assertEqual(self.assert_right(heap, [tile])[0], "floor")
        self.assertEqual(self.assert_right(heap + there[:1], there[:1])[0], "tree")
        six = over_the_eighth(far, 3)
        corner = next(tile for tile in floor.tiles_at(floor.near(place(far), 2)[0]))
        self.assert_right([corner], over_the_eighth(corner[0], 3))
        self.assert_right(heap, six)

    def test_little_is_left(self):
        shift = (Root(1, 0, 3), Root(2, 1, 7))
        heap = heap_about(shift, 40)
        closer = heap_about(shift, 50)
        # The four squares together have all of the box, by far, and two of them leave a quarter of it.
        self.assertEqual(self.assert_right(heap, closer)[0], "tree")
        self.assertEqual(self.assert_right(heap, closer[:2])[0], "floor")
        self.assertEqual(self.assert_right(heap, closer[2:])[0], "floor")
        self.assertEqual(self.assert_right(heap, closer[::2])[0], "tree")
        self.assertEqual(self.assert_right(closer, heap[:1])[0], "tree")
        self.assertEqual(self.assert_right(closer, closer[1:2])[0], "tree")

    def test_six_in_time(self):
        dice = seeded(145)
        begin = time.monotonic()
        for _ in range(30):
            absent = random_heap(dice, 1, 6)
            self.assertEqual(with_absent([], absent)[0], "floor")
        for eighth in range(8):
            tile = over_the_eighth(ZERO, eighth)[0]
            for other in range(8):
                told = with_absent([tile], over_the_eighth(ZERO, other))
                if told[0] == "tree":
                    self.assertTrue(is_tree([tile], over_the_eighth(ZERO, other), told[1]))
        tiles = tiles_of(Floor((0, 0)), (0, 0), 4)[:40]
        told = with_absent(tiles, [tiles[3]] * 6)
        self.assertTrue(is_tree(tiles, [tiles[3]] * 6, told[1]))
        self.assertLess(time.monotonic() - begin, 10)

    def test_wrong(self):
        for deed in (with_absent, lambda heap, absent: is_tree(heap, absent, None)):
            for heap, index in bad_heaps():
                for absent in ([], None):
                    with self.assertRaises(BadHeap) as caught:
                        deed(heap, absent)
                    self.assertEqual(caught.exception.index, index)
            tile = (ZERO, 0, 1)
            rows = [[tile] * 7, (tile,) * 7, [None] + [tile] * 6, [tile] * 6 + [None], [tile] * 3 + [ZERO] + [tile] * 3]
            for absent in bad_heap_rows() + rows:
                for heap in ([], THREE, (tile,)):
                    with self.assertRaises(BadAbsent) as caught:
                        deed(heap, absent)
                    self.assertEqual(caught.exception.index, -1)
                    self.assertIsInstance(caught.exception, FloorError)
            for thing in bad_items():
                for at in (0, 2, 4):
                    for heap in ([], THREE):
                        absent = [tile] * 4
                        absent.insert(at, thing)
                        for row in (absent, absent + [None], tuple(absent)):
                            with self.assertRaises(BadAbsent) as caught:
                                deed(heap, row)
                            self.assertEqual(caught.exception.index, at)
            deed([], [tile] * 6)

    def test_nothing_changes(self):
        for heap, absent in [(THREE[:2], [THREE[2], (ZERO, 0, 1)]), ((THREE[0],), [THREE[0]]), ([], [])]:
            kept = copy.deepcopy((heap, absent))
            told = with_absent(heap, absent)
            self.assertEqual(with_absent(heap, absent), told)
            is_tree(heap, absent, told[1])
            self.assertEqual((heap, absent), kept)


class TestIsTree(unittest.TestCase):
    def judged(self, heap, absent, thing):
        told = is_tree(heap, absent, thing)
        self.assertIs(told, judges.is_tree(heap, absent, thing), (heap, absent, thing))
        return told

    def test_splits_and_bars_alone(self):
        kind, tree = with_absent(THREE, [(ZERO, 0, 1)])
        self.assertEqual(tree[0], "bars")
        self.assertTrue(self.judged(THREE, [(ZERO, 0, 1)], tree))
        self.assertTrue(self.judged(THREE, [], tree))
        # A split that is not needed is a tree, too.
        needless = ("split", 0, (tree,) * 4)
        self.assertTrue(self.judged(THREE, [(ZERO, 0, 1)], needless))
        self.assertFalse(self.judged(THREE, [], needless))
        self.assertTrue(self.judged(THREE, APART, ("split", 1, (tree, needless, tree, tree))))
        self.assertFalse(self.judged(THREE, APART, ("split", 0, (tree, needless, tree, tree))))
        self.assertFalse(self.judged(THREE, APART, ("split", 1, (tree, tree, ("split", 1, (tree,) * 4), tree))))
        self.assertTrue(self.judged(THREE, [APART[0]] * 2, ("split", 1, (tree, tree, ("split", 0, (tree,) * 4), tree))))

    def test_one_split(self):
        heap, absent = [(ZERO, 1, 3)], [(ZERO, 1, 3)]
        right = ("split", 0, tuple([("bars", ((index, 1), (4, 1))) for index in range(4)]))
        self.assertTrue(self.judged(heap, absent, right))
        # "Beyond this side" counts behind the heap: with two tiles in it the bound of the branch has the index 8.
        self.assertFalse(self.judged(heap * 2, absent, right))
        self.assertTrue(self.judged(heap * 2, absent, ("split", 0, tuple([("bars", ((k, 2), (8, 2))) for k in range(4)]))))
        branches = right[2]
        for thing in (("split", 1, branches), ("split", -1, branches), ("split", False, branches), ("split", 0, branches[:3]),
                      ("split", 0, branches + branches[:1]), ("split", 0, list(branches)), ["split", 0, branches],
                      ("split", 0, branches, 0), ("split", 0), ("split", 0, branches[::-1]), ("split", "0", branches),
                      ("split", 0, (branches[0], branches[1], branches[2], None)), ("tree", right), ("bars", branches),
                      ("split", Root(0, 0, 1), branches), ("split", 0, branches[0]), ("split", 0, ()), right[2][0], None,
                      ("split", 0, (right, *branches[1:])), (b"split", 0, branches)):
            self.assertFalse(self.judged(heap, absent, thing), thing)

    def test_bounds_of_branches_come_from_the_outermost_on(self):
        heap, absent = [(ZERO, 1, 3)], [(FAR_STEP, 0, 1), (ZERO, 1, 3)]
        inner = ("split", 1, tuple([("bars", ((index, 1), (5, 1))) for index in range(4)]))
        self.assertTrue(self.judged(heap, absent, ("split", 0, (inner,) * 4)))
        turned = ("split", 1, tuple([("bars", ((index, 1), (4, 1))) for index in range(4)]))
        self.assertFalse(self.judged(heap, absent, ("split", 0, (turned,) * 4)))
        self.assertTrue(self.judged(heap, absent, turned))

    def test_spoiled_trees(self):
        right = 0
        cases = [([(ZERO, 1, 3)], [(ZERO, 1, 3)]), (THREE, [(ZERO, 1, 3)]), (APART, []), (THREE[:1], [(ZERO, 0, 1), THREE[0]])]
        tile = next(tile for tile in Floor((0, 0)).tiles_at(ZERO) if tile not in over_the_eighth(ZERO, 0))
        cases.append(([tile], over_the_eighth(ZERO, 0)))
        for heap, absent in cases:
            kind, tree = with_absent(heap, absent)
            self.assertEqual(kind, "tree")
            for thing in judges.spoiled(tree)[::1 if leaves(tree) < 8 else 5]:
                right += self.judged(heap, absent, thing)
        self.assertGreater(right, 0)

    def test_papers_of_other_heaps(self):
        cases = []
        for heap in ([(ZERO, 1, 3)], [(ZERO, 0, 1)], THREE, APART, THREE + APART, [(ZERO, 1, 3), (ZERO, 0, 1)], [(ZERO, 1, 3)] * 2):
            for absent in ([(ZERO, 1, 3)], [(ZERO, 0, 1), (ZERO, 1, 3)], [], [(ZERO, 0, 1)]):
                cases.append((heap, absent, with_absent(heap, absent)))
        seen = {True: 0, False: 0}
        for heap, absent, own in cases:
            for _, _, (kind, paper) in cases:
                seen[self.judged(heap, absent, paper)] += 1
                self.assertFalse(self.judged(heap, absent, (kind, paper)))
        self.assertGreater(min(seen.values()), 50, seen)

    def test_any_object(self):
        for thing in odd_things() + odd_tuples() + [1.5, 2j, {1}, R, Piece([]), Floor((0, 0))]:
            for heap in ([], THREE):
                for paper in (thing, ("bars", thing), ("split", 0, thing), ("split", thing, ()), (thing, 0, ()),
                              ("split", 0, (thing,) * 4), ("split", thing, (("bars", ()),) * 4)):
                    self.assertIs(is_tree(heap, [(ZERO, 1, 3)], paper), False)


if __name__ == "__main__":
    unittest.main()
