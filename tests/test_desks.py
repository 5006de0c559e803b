import time
import unittest

import judges
from heaplets import APART, THREE, ZERO, moved, some_heap, tiles_of
from samples import HUGE, seeded
from test_absents import is_floor, over_the_eighth
from test_floors import SHIFTS
from test_heaps import digits
from test_tiles import bad_tiles

from threetiles.absents import is_tree, with_absent
from threetiles.asking import asks
from threetiles.desks import Desk
from threetiles.errors import BadTile, Clash, FloorError, Known, NothingDone, TooMany
from threetiles.floors import Floor, barred
from threetiles.roots import Root
from threetiles.words import possible, word

SQUARE = (ZERO, 1, 3)
FLOORS = [Floor(shift) for shift in SHIFTS[:5]]


def desk_of(told, denied=()):
    desk = Desk()
    for tile in told:
        desk.tell(tile)
    for tile in denied:
        desk.deny(tile)
    return desk


def state(desk):
    return (desk.told(), desk.denied(), desk.fitting())


def word_by(told, denied, tile):
    """The word as to all floors that fit, by floors and trees; None if the tiles are too many for these."""
    if len(told) == 40 or len(denied) == 6:
        return None
    some = with_absent(told + [tile], denied)[0] == "floor"
    some_not = with_absent(told, denied + [tile])[0] == "floor"
    return {(True, True): "open", (True, False): "sure", (False, True): "never"}[some, some_not]


class Kept(unittest.TestCase):
    def assert_kept(self, desk, told, denied):
        self.assertEqual(desk.told(), told)
        self.assertEqual(desk.denied(), denied)
        shift = desk.fitting()
        self.assertTrue(is_floor(told, denied, shift))
        self.assertTrue(all([type(part) is Root for part in shift]))
        self.assertLessEqual(digits(shift), 400)
        self.assertEqual(desk.fitting(), shift)

    def assert_clash(self, desk, tile, there):
        before = state(desk)
        with self.assertRaises(Clash) as caught:
            desk.tell(tile) if there else desk.deny(tile)
        told = before[0] + [tile] if there else before[0]
        denied = before[1] + ([] if there else [tile])
        self.assertTrue(judges.is_tree(told, denied, caught.exception.tree))
        self.assertIs(is_tree(told, denied, caught.exception.tree), True)
        self.assertIsInstance(caught.exception, FloorError)
        self.assertEqual(state(desk), before)


class TestKeeping(Kept):
    def test_nothing_kept(self):
        desk = Desk()
        self.assert_kept(desk, [], [])
        self.assertIsNone(barred(desk.fitting()))
        for tile in THREE + APART + [((10 ** 6 - 1, -3, 0, 999999), 0, 1)]:
            self.assertEqual(desk.word(tile), "open")
        with self.assertRaises(NothingDone) as caught:
            desk.back()
        self.assertIsInstance(caught.exception, FloorError)
        self.assert_kept(desk, [], [])

    def test_numbers_and_orders(self):
        desk = Desk()
        floor = FLOORS[1]
        tiles = tiles_of(floor, (0, 0), 3)
        absent = [tile for tile, told in possible(tiles[:1], (0, 0), 2) if not floor.has_tile(tile)]
        told, denied = [], []
        for at in range(6):
            self.assertEqual(desk.tell(tiles[7 - at]), 2 * at + 1)
            told.append(tiles[7 - at])
            number = desk.deny(absent[at * 3])
            self.assertEqual(number, 2 * at + 2)
            self.assertIs(type(number), int)
            denied.append(absent[at * 3])
            self.assert_kept(desk, told, denied)
        # The last ones are taken away first, whether told or denied.
        for at in range(6):
            self.assertIsNone(desk.back())
            denied.pop()
            self.assert_kept(desk, told, denied)
            self.assertIsNone(desk.back())
            told.pop()
            self.assert_kept(desk, told, denied)
        with self.assertRaises(NothingDone):
            desk.back()

    def test_in_many_orders(self):
        dice = seeded(251)
        seen = {}
        for turn in range(30):
            desk, kept = Desk(), []
            tiles = tiles_of(FLOORS[turn % 5], (0, 0), 2)
            near = [tile for tile, told in possible(tiles[:1], (0, 0), 2)] + tiles
            for _ in range(40):
                deed = dice.choice(["tell", "tell", "deny", "deny", "back"])
                tile = dice.choice(near)
                told = [other for other, there in kept if there]
                denied = [other for other, there in kept if not there]
                if deed == "back":
                    expected = "back" if kept else NothingDone
                elif tile in told or tile in denied:
                    expected = Known
                elif deed == "deny" and len(denied) == 6:
                    expected = TooMany
                else:
                    paper = with_absent(told + [tile], denied) if deed == "tell" else with_absent(told, denied + [tile])
                    expected = deed if paper[0] == "floor" else Clash
                try:
                    number = desk.back() if deed == "back" else desk.tell(tile) if deed == "tell" else desk.deny(tile)
                    found = deed
                except FloorError as error:
                    found = type(error)
                self.assertEqual(found, expected)
                seen[found] = seen.get(found, 0) + 1
                if found == "back":
                    kept.pop()
                elif found in ("tell", "deny"):
                    kept.append((tile, deed == "tell"))
                    self.assertEqual(number, len(kept))
                self.assert_kept(desk, [other for other, there in kept if there],
                                 [other for other, there in kept if not there])
        self.assertEqual(set(seen), {"tell", "deny", "back", Known, Clash, TooMany, NothingDone})

    def test_40_told_and_6_denied(self):
        begin = time.monotonic()
        floor = FLOORS[2]
        tiles = tiles_of(floor, (0, 0), 5)
        heap = tiles[:40]
        desk = desk_of(heap)
        absent = [tile for tile, told in possible(heap, (0, 0), 3) if told == "open" and not floor.has_tile(tile)]
        # What is denied may be what is never there, too.
        absent = (absent + [(tile[0], 0, 2) for tile in heap if not floor.has_tile((tile[0], 0, 2))])[:6]
        self.assertEqual([desk.deny(tile) for tile in absent], [41, 42, 43, 44, 45, 46])
        self.assert_kept(desk, heap, absent)
        before = state(desk)
        for tile in (tiles[41], (ZERO, 0, 2), ((0, 0, 0, 1), 0, 2), ((55, 0, 0, 1), 0, 2)):
            with self.assertRaises(TooMany) as caught:
                desk.tell(tile)
            self.assertEqual(caught.exception.limit, 40)
            with self.assertRaises(TooMany) as caught:
                desk.deny(tile)
            self.assertEqual(caught.exception.limit, 6)
            self.assertIn(desk.word(tile), ("sure", "never", "open"))
        # What is no tile is told first, then what is kept.
        for thing in (None, ZERO, [ZERO, 0, 1], (ZERO, 1, 0)):
            for deed in (desk.tell, desk.deny, desk.word):
                with self.assertRaises(BadTile) as caught:
                    deed(thing)
                self.assertIs(caught.exception.tile, thing)
        for tile in heap[:3] + absent:
            for deed in (desk.tell, desk.deny):
                with self.assertRaises(Known) as caught:
                    deed(tile)
                self.assertEqual(caught.exception.tile, tile)
        for tile in heap:
            self.assertEqual(desk.word(tile), "sure")
        for tile in absent:
            self.assertEqual(desk.word(tile), "never")
        self.assertEqual(state(desk), before)
        # With one less there is room again for one more.
        desk.back()
        self.assertEqual(desk.deny(absent[5]), 46)
        for _ in range(7):
            desk.back()
        self.assertEqual(desk.tell(heap[-1]), 40)
        self.assertLess(time.monotonic() - begin, 20)

    def test_six_denied_alone(self):
        desk = desk_of([], [(ZERO, i, j) for i, j in [(0, 1), (0, 2), (0, 3), (1, 2), (1, 3), (2, 3)]])
        self.assertEqual(len(desk.denied()), 6)
        with self.assertRaises(TooMany) as caught:
            desk.deny(((1, 0, 0, 0), 0, 1))
        self.assertEqual(caught.exception.limit, 6)
        self.assertEqual(desk.tell(((1, 0, 0, 0), 0, 1)), 7)

    def test_known(self):
        desk = desk_of([SQUARE], [(ZERO, 0, 2)])
        for tile in (SQUARE, (ZERO, 0, 2)):
            for deed in (desk.tell, desk.deny):
                with self.assertRaises(Known) as caught:
                    deed(tile)
                self.assertIs(caught.exception.tile, tile)
        desk.back()
        self.assertEqual(desk.denied(), [])
        # It is not known any more; but it would clash with what is told.
        self.assert_clash(desk, (ZERO, 0, 2), True)
        self.assertEqual(desk.deny((ZERO, 0, 2)), 2)

    def test_clash(self):
        self.assert_clash(desk_of(THREE[:2]), THREE[2], True)
        self.assert_clash(desk_of([APART[0]]), APART[1], True)
        self.assertEqual(desk_of(THREE[:2]).deny(THREE[2]), 3)
        # All that may lie over an eighth of the round at a corner of a told tile.
        for corner in (ZERO, (0, 1, 0, 0), (123456, -7, 0, 9)):
            tile = (corner, 1, 3)
            for eighth in range(8):
                six = over_the_eighth(corner, eighth)
                still = [other for other in six if word([tile], other)[0] != "never"]
                if tile in still:
                    continue
                # Those that are never there change nothing.
                desk = desk_of([tile], [other for other in six if other not in still] + still[:-1])
                self.assertEqual(desk.word(still[-1]), "sure")
                self.assert_clash(desk, still[-1], False)
                self.assertEqual(desk.tell(still[-1]), 7)

    def test_clash_of_told_behind_denied(self):
        # Where none of these six is there, no tile with this corner is.
        six = over_the_eighth(ZERO, 0)
        desk = desk_of([], six)
        for tile in [(ZERO, 1, 3), (ZERO, 2, 3), ((0, -1, -1, 0), 1, 2)]:
            self.assertNotIn(tile, six)
            self.assertEqual(desk.word(tile), "never")
            self.assert_clash(desk, tile, True)
        self.assertEqual(desk.word(((3, 0, 0, 0), 0, 1)), "open")

    def test_back_behind_a_refusal(self):
        desk = desk_of(THREE[:2], [((5, 5, 5, 5), 0, 1)])
        self.assert_clash(desk, THREE[2], True)
        for thing in (None, ZERO):
            with self.assertRaises(BadTile):
                desk.tell(thing)
        with self.assertRaises(Known):
            desk.deny(THREE[0])
        # What is taken away is what was kept last, not what was refused.
        desk.back()
        self.assert_kept(desk, THREE[:2], [])
        desk.back()
        self.assert_kept(desk, THREE[:1], [])
        self.assertEqual(desk.tell(THREE[2]), 2)

    def test_wrong(self):
        for desk in (Desk(), desk_of([SQUARE], [((1, 0, 0, 0), 0, 2)])):
            before = state(desk)
            for thing in bad_tiles():
                for deed in (desk.tell, desk.deny, desk.word):
                    with self.assertRaises(BadTile) as caught:
                        deed(thing)
                    self.assertIs(caught.exception.tile, thing)
                    self.assertIsInstance(caught.exception, FloorError)
            self.assertEqual(state(desk), before)

    def test_new_lists(self):
        desk = desk_of([SQUARE], [((1, 0, 0, 0), 0, 2)])
        for deed in (desk.told, desk.denied):
            told = deed()
            self.assertIs(type(told), list)
            self.assertIsNot(told, deed())
            told.append(None)
            self.assertEqual(len(deed()), 1)
        self.assert_kept(desk, [SQUARE], [((1, 0, 0, 0), 0, 2)])

    def test_desks_are_apart(self):
        one, other = Desk(), Desk()
        one.tell(SQUARE)
        self.assertEqual(other.told(), [])
        self.assertFalse(one == other)
        self.assertFalse(Desk() == Floor((0, 0)))
        self.assertFalse(Desk() == [])
        self.assertTrue(one == one)


class TestWord(Kept):
    def test_as_heaps_tell(self):
        dice = seeded(252)
        for turn in range(20):
            tiles = tiles_of(FLOORS[turn % 5], (0, 0), 3)
            heap = some_heap(dice, tiles, 5)
            desk = desk_of(heap)
            for tile in [tile for tile, told in possible(heap, (0, 0), 2)[::7]] + [(ZERO, 0, 2)]:
                self.assertEqual(desk.word(tile), word(heap, tile)[0])
            self.assert_kept(desk, heap, [])

    def test_as_absent_tiles_tell(self):
        dice = seeded(253)
        seen = {}
        for turn in range(40):
            tiles = tiles_of(FLOORS[turn % 5], (0, 0), 2)
            heap = some_heap(dice, tiles, 2)
            near = [tile for tile, told in possible(heap, (0, 0), 2)]
            desk, absent = desk_of(heap), []
            for tile in dice.sample(near, min(len(near), 9)):
                if len(absent) < 5 and desk.word(tile) == "open":
                    desk.deny(tile)
                    absent.append(tile)
            for tile in dice.sample(near, min(len(near), 10)) + absent + heap:
                told = desk.word(tile)
                self.assertEqual(told, word_by(heap, absent, tile))
                before = word(heap, tile)[0]
                seen[before, told] = seen.get((before, told), 0) + 1
            self.assert_kept(desk, heap, absent)
        # What was denied settles more.
        self.assertLessEqual({("open", "sure"), ("open", "never"), ("open", "open"), ("sure", "sure")}, set(seen))

    def test_as_asks_tell(self):
        heap, tiles, tile = [SQUARE], over_the_eighth(ZERO, 3), ((0, 1, 1, 1), 2, 3)
        dice = seeded(254)
        near = [other for other, told in possible(heap, (0, 0), 1) if told == "open"]
        many = 0
        for _ in range(60):
            tiles = dice.sample(near, 3)
            tile = dice.choice(near)
            told = asks(heap, tiles, tile)
            if told[0] == "never":
                for shift in told[1:]:
                    self.assertIsNone(barred(shift))
                continue
            many += 1
            self.follow(desk_of(heap), tiles, tile, told[2])
        self.assertGreater(many, 3)

    def follow(self, desk, tiles, tile, plan):
        """Each end of a plan is what a desk tells behind these answers."""
        if plan[0] != "ask":
            self.assertEqual(desk.word(tile), {"yes": "sure", "no": "never"}[plan[0]])
            return
        self.assertEqual(desk.word(tiles[plan[1]]), "open")
        for deed, branch in ((desk.tell, plan[2]), (desk.deny, plan[3])):
            deed(tiles[plan[1]])
            self.follow(desk, tiles, tile, branch)
            desk.back()

    def test_nothing_changes(self):
        desk = desk_of([SQUARE], [((1, 0, 0, 0), 0, 2)])
        before = state(desk)
        for tile, told in possible([SQUARE], (0, 0), 1):
            self.assertEqual(desk.word(tile), desk.word(tile))
        self.assertEqual(state(desk), before)


class Own(Exception):
    pass


class TestTrying(Kept):
    def setUp(self):
        self.desk = desk_of(THREE[:1], [((5, 5, 5, 5), 0, 1)])
        self.before = state(self.desk)

    def assert_as_it_was(self):
        self.assertEqual(state(self.desk), self.before)
        # Back takes away the last one, as it would have.
        self.desk.back()
        self.assertEqual((self.desk.told(), self.desk.denied()), (THREE[:1], []))
        self.desk.deny(((5, 5, 5, 5), 0, 1))

    def test_what_it_returns(self):
        for thing in (None, 3, [1], self.desk, "word", (1, [2])):
            self.assertIs(self.desk.trying(lambda desk: thing), thing)
        self.assertIs(self.desk.trying(lambda desk: desk), self.desk)
        self.assertEqual(self.desk.trying(Desk.told), THREE[:1])
        self.assert_as_it_was()

    def test_tells_and_denies(self):
        def deed(desk):
            self.assertEqual(desk.tell(THREE[1]), 3)
            self.assertEqual(desk.deny((ZERO, 0, 2)), 4)
            self.assertEqual(desk.told(), THREE[:2])
            return desk.word(THREE[2])
        self.assertEqual(self.desk.trying(deed), "never")
        self.assert_as_it_was()

    def test_takes_back(self):
        def deed(desk):
            desk.back()
            desk.back()
            self.assertEqual(desk.told() + desk.denied(), [])
            desk.tell(APART[0])
            return desk.word(APART[1])
        self.assertEqual(self.desk.trying(deed), "never")
        self.assert_as_it_was()
        with self.assertRaises(NothingDone):
            self.desk.trying(lambda desk: [desk.back() for _ in range(3)])
        self.assert_as_it_was()

    def test_errors_go_on(self):
        error = Own("why")

        def deed(desk):
            desk.tell(THREE[1])
            desk.back()
            desk.back()
            raise error
        with self.assertRaises(Own) as caught:
            self.desk.trying(deed)
        self.assertIs(caught.exception, error)
        self.assert_as_it_was()

        def clash(desk):
            desk.tell(THREE[1])
            desk.tell(THREE[2])
        with self.assertRaises(Clash) as caught:
            self.desk.trying(clash)
        self.assertTrue(judges.is_tree(THREE, [((5, 5, 5, 5), 0, 1)], caught.exception.tree))
        self.assert_as_it_was()
        for kind in (KeyError, StopIteration, KeyboardInterrupt, BadTile):
            def fail(desk):
                desk.tell(THREE[1])
                raise kind(3)
            with self.assertRaises(kind):
                self.desk.trying(fail)
            self.assert_as_it_was()

    def test_within_one_another(self):
        def inner(desk):
            desk.tell(THREE[1])
            return desk.told()

        def outer(desk):
            desk.back()
            self.assertEqual(desk.trying(inner), THREE[:2])
            self.assertEqual((desk.told(), desk.denied()), (THREE[:1], []))
            desk.tell(THREE[2])
            self.assertEqual(desk.trying(lambda other: other.back()), None)
            self.assertEqual(desk.told(), [THREE[0], THREE[2]])
            try:
                desk.trying(lambda other: other.tell(THREE[1]))
            except Clash as error:
                self.assertTrue(judges.is_tree([THREE[0], THREE[2], THREE[1]], [], error.tree))
            self.assertEqual(desk.told(), [THREE[0], THREE[2]])
            return desk.trying(lambda other: other.trying(lambda third: third.word(THREE[1])))
        self.assertEqual(self.desk.trying(outer), "never")
        self.assert_as_it_was()

    def test_other_desks(self):
        other = Desk()

        def deed(desk):
            other.tell(SQUARE)
            return len(desk.told())
        self.assertEqual(self.desk.trying(deed), 1)
        self.assertEqual(other.told(), [SQUARE])
        self.assert_as_it_was()

    def test_many_times(self):
        for _ in range(20):
            self.desk.trying(lambda desk: desk.tell(THREE[1]))
        self.assert_as_it_was()

    def test_empty_desk(self):
        desk = Desk()
        self.assertEqual(desk.trying(lambda other: other.tell(SQUARE)), 1)
        self.assertEqual(desk.told(), [])
        with self.assertRaises(NothingDone):
            desk.back()


class TestInTime(Kept):
    def test_a_full_desk(self):
        begin = time.monotonic()
        # Six that are open one by one, and many that are told: each word asks for two trees.
        dice = seeded(255)
        for turn in range(4):
            floor = FLOORS[turn]
            tiles = tiles_of(floor, (0, 0), 8)
            heap = dice.sample(tiles, 40)
            desk = desk_of(heap)
            near = [tile for tile, told in possible(heap, (0, 0), 3) if told == "open"]
            for tile in near:
                if len(desk.denied()) < 6 and desk.word(tile) == "open":
                    desk.deny(tile)
            for tile in near[:10] + heap[:5]:
                desk.word(tile)
            desk.trying(lambda other: other.fitting())
        few = desk_of([SQUARE])
        for tile in over_the_eighth(ZERO, 0):
            if few.word(tile) == "open" and len(few.denied()) < 6:
                few.deny(tile)
        self.assertTrue(is_floor(few.told(), few.denied(), few.fitting()))
        self.assertLess(time.monotonic() - begin, 20)

    def test_corners_of_six_digits(self):
        v = (999999, -876543, 0, 123456)
        heap = moved(THREE, v)
        desk = desk_of(heap[:2])
        self.assertEqual(desk.word(heap[2]), "never")
        self.assert_clash(desk, heap[2], True)
        self.assert_kept(desk, heap[:2], [])
        self.assertGreater(HUGE, 10 ** 6)


if __name__ == "__main__":
    unittest.main()
