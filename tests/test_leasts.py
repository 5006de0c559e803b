import copy
import time
import unittest
from itertools import combinations

import surds
from heaplets import APART, THREE, ZERO, bad_heaps, far_corner, tiles_of
from samples import HUGE, odd_things, seeded, some_corner
from test_floors import SHIFTS
from test_tiles import WAYS, bad_tiles

from threetiles.corners import place
from threetiles.errors import BadHeap, BadPrices, BadTile, FloorError, NotHeld, NotSettled, TooMany
from threetiles.floors import Floor
from threetiles.heaps import heap_piece, held
from threetiles.leasts import cheapest_lot, least_lots
from threetiles.roots import Root
from threetiles.words import word, word_in

R = Root(0, 1, 1)


def all_lots(heap, tile):
    """All tuples of indexes whose tiles alone settle a tile, by length, then as tuples."""
    told = surds.word_for(heap, tile)
    found = []
    for many in range(1, len(heap) + 1):
        for lot in combinations(range(len(heap)), many):
            some = [heap[index] for index in lot]
            if surds.word_for(some, tile) == told:
                found.append(lot)
    return found


def least_of(lots):
    return [lot for lot in lots if not any([set(other) < set(lot) for other in lots])]


def settled_cases(dice, many, most, told):
    """Tuples (heap, tile) with a tile that is settled so, the heap of at most so many tiles."""
    found = []
    while len(found) < many:
        floor = Floor(dice.choice(SHIFTS[:5]))
        tiles = tiles_of(floor, (0, 0), 3)
        heap = [dice.choice(tiles) for _ in range(dice.randint(1, most))]
        piece = heap_piece(heap)
        if told == "sure":
            some = [tile for tile in tiles if word_in(piece, tile) == told and (tile not in heap or dice.random() < 0.1)]
        else:
            some = [(some_corner(dice, 1), *dice.choice(WAYS)) for _ in range(9)]
            some = [tile for tile in some if word_in(piece, tile) == told]
        if some:
            found.append((heap, dice.choice(some)))
    return found


class TestLeastLots(unittest.TestCase):
    def test_minimal_complete_and_ordered(self):
        dice = seeded(131)
        lengths = {}
        for told in ("sure", "never"):
            for heap, tile in settled_cases(dice, 14, 6, told):
                lots = least_lots(heap, tile)
                self.assertIs(type(lots), list)
                self.assertTrue(all([type(lot) is tuple for lot in lots]))
                self.assertEqual(lots, least_of(all_lots(heap, tile)))
                self.assertEqual(lots, sorted(lots, key=lambda lot: (len(lot), lot)))
                self.assertEqual(least_lots(tuple(heap), tile), lots)
                for lot in lots:
                    lengths[told, len(lot)] = lengths.get((told, len(lot)), 0) + 1
        self.assertTrue({("never", 1), ("sure", 1), ("sure", 2), ("sure", 3)} <= set(lengths), lengths)

    def test_never_by_two_of_many(self):
        dice = seeded(136)
        twos = 0
        for two in (THREE[:2], THREE[1:], THREE[::2]):
            tile = next(part for part in THREE if part not in two)
            others = tiles_of(Floor(held(two)[1]), (0, 0), 4)
            for _ in range(3):
                heap = two + dice.sample(others, 4)
                dice.shuffle(heap)
                lots = least_lots(heap, tile)
                self.assertEqual(lots, least_of(all_lots(heap, tile)))
                twos += len([lot for lot in lots if len(lot) == 2])
        self.assertGreater(twos, 8)

    def test_lots_of_many_tiles(self):
        # Each lot settles the tile by itself, and no longer without any one of its tiles.
        dice = seeded(132)
        longest = 0
        for told in ("sure", "never"):
            for heap, tile in settled_cases(dice, 8, 10, told):
                lots = least_lots(heap, tile)
                self.assertTrue(lots)
                for lot in lots:
                    self.assertEqual(surds.word_for([heap[index] for index in lot], tile), told)
                    longest = max(longest, len(lot))
                    for out in lot:
                        rest = [heap[index] for index in lot if index != out]
                        self.assertTrue(not rest or surds.word_for(rest, tile) == "open")
                self.assertEqual(len(set(lots)), len(lots))
                self.assertLessEqual(max(map(len, lots)), 8 if told == "sure" else 2)
        self.assertGreaterEqual(longest, 3)

    def test_tiles_of_the_heap(self):
        heap = [(ZERO, 1, 3), (ZERO, 0, 1), (ZERO, 1, 3)]
        self.assertEqual(least_lots([heap[0]], heap[0]), [(0,)])
        self.assertEqual([lot for lot in least_lots(heap, heap[0]) if len(lot) == 1], [(0,), (2,)])
        self.assertEqual(least_lots([heap[0]] * 10, heap[0]), [(index,) for index in range(10)])

    def test_never_by_one_and_by_two(self):
        self.assertEqual(least_lots([(ZERO, 0, 2)], (ZERO, 1, 3)), [(0,)])
        self.assertEqual(least_lots([(ZERO, 0, 2), (ZERO, 0, 2)], (ZERO, 1, 3)), [(0,), (1,)])
        self.assertEqual(least_lots(THREE[:2], THREE[2]), [(0, 1)])
        self.assertEqual(least_lots(THREE[1:] * 2, THREE[0]), [(0, 1), (0, 3), (1, 2), (2, 3)])

    def test_four_at_once(self):
        heap = [((-3, -3, 0, 2), 1, 3), ((-2, 0, 2, 3), 2, 3), ((1, 3, 3, 2), 0, 2), ((0, -2, -3, -2), 2, 3),
                ((2, 3, 3, 1), 2, 3), ((1, 1, 1, 0), 2, 3), ((2, 3, 2, 0), 2, 3), ((-1, -1, 0, 1), 2, 3),
                ((2, -1, -2, -3), 1, 3), ((0, 2, 3, 2), 2, 3)]
        tile = ((-1, 0, 2, 2), 0, 1)
        lots = least_lots(heap, tile)
        self.assertIn((1, 2, 5, 9), lots)
        some = [heap[index] for index in (1, 2, 5, 9)]
        self.assertEqual(least_of(all_lots(some, tile)), [(0, 1, 2, 3)])
        for many in (3, 4):
            found = [lot for lot in combinations(range(10), many)
                     if surds.word_for([heap[index] for index in lot], tile) == "sure"]
            self.assertEqual([lot for lot in lots if len(lot) == many],
                             [lot for lot in found if not any([set(other) < set(lot) for other in lots])])

    def test_far_apart(self):
        floor = Floor((Root(1, 0, 3), Root(-2, 0, 7)))
        far = far_corner(60)
        heap = tiles_of(floor, (0, 0), 1)[:3] + tiles_of(floor, place(far), 1)[:2]
        for tile in heap + tiles_of(floor, (0, 0), 2)[-2:]:
            if word(heap, tile)[0] == "sure":
                self.assertEqual(least_lots(heap, tile), least_of(all_lots(heap, tile)))

    def test_ten_in_time(self):
        begin = time.monotonic()
        tiles = tiles_of(Floor((0, 0)), (0, 0), 4)
        heap = tiles[:10]
        piece = heap_piece(heap)
        some = [tile for tile in tiles if word_in(piece, tile) == "sure"]
        for tile in some[:15]:
            self.assertTrue(least_lots(heap, tile))
            self.assertTrue(cheapest_lot(heap, list(range(10)), tile))
        self.assertLess(time.monotonic() - begin, 10)
        self.assertGreater(len(some), 10)

    def test_wrong(self):
        for deed in (least_lots, lambda heap, tile: cheapest_lot(heap, [1] * len(heap), tile)):
            for heap in (THREE, tuple(APART), APART * 6):
                for tile in (None, (ZERO, 0, 1)):
                    with self.assertRaises(NotHeld):
                        deed(heap, tile)
            for heap in (APART[:1], [], [(ZERO, 0, 1)] * 11):
                for tile in bad_tiles():
                    with self.assertRaises(BadTile) as caught:
                        deed(heap, tile)
                    self.assertIs(caught.exception.tile, tile)
            # Also where the tile is open.
            for tile in [(ZERO, 0, 1), (ZERO, 1, 3), (ZERO, 0, 2)]:
                for heap in ([(ZERO, 0, 1)] * 11, tuple([(ZERO, 0, 1)] * 40)):
                    with self.assertRaises(TooMany) as caught:
                        deed(heap, tile)
                    self.assertEqual(caught.exception.limit, 10)
                    self.assertIsInstance(caught.exception, FloorError)
            for heap in ([], (), [(ZERO, 1, 3)], [(ZERO, 1, 3)] * 10):
                with self.assertRaises(NotSettled):
                    deed(heap, (ZERO, 0, 1))
            self.assertTrue(deed([(ZERO, 0, 1)] * 10, (ZERO, 0, 1)))
        for heap, index in bad_heaps():
            with self.assertRaises(BadHeap) as caught:
                least_lots(heap, None)
            self.assertEqual(caught.exception.index, index)

    def test_nothing_changes(self):
        heap = THREE[:2]
        kept = copy.deepcopy(heap)
        told = least_lots(heap, THREE[2])
        again = least_lots(heap, THREE[2])
        self.assertEqual(told, again)
        self.assertIsNot(told, again)
        told.append(None)
        self.assertEqual(least_lots(heap, THREE[2]), again)
        self.assertEqual(heap, kept)


class TestCheapestLot(unittest.TestCase):
    def test_of_all_lots(self):
        dice = seeded(135)
        for turn, told in enumerate(("sure", "never") * 8):
            heap, tile = settled_cases(dice, 1, 6, told)[0]
            lots = all_lots(heap, tile)
            for most in (0, 1, 3, 10 ** 40):
                prices = [dice.randint(0, most) for _ in heap]
                costs = [(sum([prices[index] for index in lot]), len(lot), lot) for lot in lots]
                cost, _, lot = min(costs)
                self.assertEqual(cheapest_lot(heap, prices, tile), (cost, lot))
                self.assertEqual(cheapest_lot(tuple(heap), tuple(prices), tile), (cost, lot))
                self.assertIs(type(cheapest_lot(heap, prices, tile)), tuple)
                self.assertIn(lot, least_lots(heap, tile))

    def test_of_those_that_cost_the_same_the_first(self):
        heap = [(ZERO, 1, 3)] * 4
        self.assertEqual(cheapest_lot(heap, [5, 3, 3, 4], (ZERO, 1, 3)), (3, (1,)))
        self.assertEqual(cheapest_lot(heap, [0, 0, 0, 0], (ZERO, 1, 3)), (0, (0,)))
        self.assertEqual(cheapest_lot(heap, [1, 0, 0, 0], (ZERO, 1, 3)), (0, (1,)))
        two = THREE[:2] * 2
        self.assertEqual(least_lots(two, THREE[2]), [(0, 1), (0, 3), (1, 2), (2, 3)])
        self.assertEqual(cheapest_lot(two, [2, 2, 2, 2], THREE[2]), (4, (0, 1)))
        self.assertEqual(cheapest_lot(two, [2, 2, 1, 1], THREE[2]), (2, (2, 3)))
        self.assertEqual(cheapest_lot(two, [2, 2, 1, 2], THREE[2]), (3, (1, 2)))
        self.assertEqual(cheapest_lot(two, [2, 3, 2, 2], THREE[2]), (4, (0, 3)))

    def test_longer_and_cheaper(self):
        # The one tile settles it alone, the two others settle it together.
        heap = [THREE[0], THREE[1], (ZERO, 0, 1), THREE[2]]
        self.assertFalse(heap_piece(heap[:2]).is_empty())
        heap = [THREE[0], THREE[1]]
        alone = next(tile for tile in tiles_of(Floor(word(heap, (ZERO, 0, 1))[1]), (0, 0), 4)
                     if surds.word_for([tile], THREE[2]) == "never" and not heap_piece(heap + [tile]).is_empty())
        heap = [alone, *heap]
        self.assertEqual(least_lots(heap, THREE[2])[:1], [(0,)])
        self.assertIn((1, 2), least_lots(heap, THREE[2]))
        self.assertEqual(cheapest_lot(heap, [10, 4, 5], THREE[2]), (9, (1, 2)))
        self.assertEqual(cheapest_lot(heap, [9, 4, 5], THREE[2]), (9, (0,)))
        self.assertEqual(cheapest_lot(heap, [HUGE, 0, 0], THREE[2]), (0, (1, 2)))
        self.assertEqual(cheapest_lot(heap, [2 * HUGE + 1, HUGE, HUGE], THREE[2]), (2 * HUGE, (1, 2)))

    def test_wrong_prices(self):
        heap = [(ZERO, 1, 3)] * 3
        rows = [thing for thing in odd_things() if not isinstance(thing, list)] + [0, R, "123", [], (), [1], [1, 2], [1] * 4]
        for bad in odd_things() + [-1, -HUGE, True, False, Root(1, 0, 1), "1", (1,), None]:
            rows += [[bad, 1, 1], [1, bad, 1], (1, 1, bad)]
        for prices in rows:
            for tile in ((ZERO, 1, 3), (ZERO, 0, 1), None):
                with self.assertRaises(BadPrices):
                    cheapest_lot(heap, prices, tile)
        for prices in ([1] * 10, [1] * 12, None):
            with self.assertRaises(BadPrices):
                cheapest_lot([(ZERO, 1, 3)] * 11, prices, (ZERO, 1, 3))
        for heap, index in bad_heaps():
            for prices in (None, [1] * 3):
                with self.assertRaises(BadHeap) as caught:
                    cheapest_lot(heap, prices, None)
                self.assertEqual(caught.exception.index, index)
        with self.assertRaises(NotHeld):
            cheapest_lot(APART, None, None)
        with self.assertRaises(NotHeld):
            cheapest_lot(APART, [1, -1], (ZERO, 0, 1))
        with self.assertRaises(BadPrices):
            cheapest_lot([], [1], (ZERO, 0, 1))
        with self.assertRaises(NotSettled):
            cheapest_lot([], [], (ZERO, 0, 1))

    def test_nothing_changes(self):
        heap, prices = THREE[:2], [3, 4]
        told = cheapest_lot(heap, prices, THREE[2])
        self.assertEqual(cheapest_lot(heap, prices, THREE[2]), told)
        self.assertEqual((heap, prices), (THREE[:2], [3, 4]))


if __name__ == "__main__":
    unittest.main()
