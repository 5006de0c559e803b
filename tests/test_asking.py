import copy
import time
import unittest

import judges
import surds
import walking
from heaplets import APART, THREE, ZERO, bad_heaps, bad_items, far_corner, moved, some_heap, tiles_of
from samples import HUGE, odd_things, odd_tuples, seeded, some_corner
from test_absents import over_the_eighth
from test_floors import SHIFTS
from test_heaps import digits
from test_tiles import bad_tiles

from threetiles.asking import asks, is_plan
from threetiles.errors import BadAsked, BadHeap, BadTile, FloorError, NotHeld
from threetiles.floors import Floor
from threetiles.roots import Root
from threetiles.words import possible, word

YES, NO = ("yes",), ("no",)
FAR_STEP = (10 ** 20, 3, 5, -7)
HEAP = [(ZERO, 1, 3)]
# Five tiles beside another one, which is there in a floor with HEAP if none of the five is.
FIVE = [((-1, 0, 1, 1), 1, 3), ((0, -1, -1, 1), 1, 2), ((0, 0, -2, -1), 2, 3), ((-1, 0, -1, 1), 0, 2),
        ((-1, -1, -1, 0), 0, 2)]
SIXTH = ((0, -1, -1, 0), 2, 3)


def polygon_for(heap):
    """The polygon of the shifts of floors with a heap; a wide square for the empty one."""
    if heap:
        return surds.heap_polygon(heap)
    far = surds.Surd(60)
    return [(-far, -far), (far, -far), (far, far), (-far, far)]


def cases_by(heap, tiles, tile):
    """The dict from the flags of all tiles to the set of the flags of the one, in the floors with a heap."""
    lots = {(): [polygon_for(heap)]}
    for other in [*tiles, tile]:
        fresh = {}
        for flags, lot in lots.items():
            for polygon in lot:
                inside, outside = walking.split(polygon, surds.sides_of_lozenge(other))
                fresh.setdefault(flags + (True,), []).extend([inside] if inside else [])
                fresh.setdefault(flags + (False,), []).extend(outside)
        lots = fresh
    found = {}
    for flags, lot in lots.items():
        if lot:
            found.setdefault(flags[:-1], set()).add(flags[-1])
    return found


def fewest(cases, many):
    """The least number of asks for the cases left, whatever is asked and answered."""
    if len(set().union(*cases.values())) <= 1:
        return 0
    best = None
    for k in range(many):
        yes = {flags: told for flags, told in cases.items() if flags[k]}
        no = {flags: told for flags, told in cases.items() if not flags[k]}
        if yes and no:
            asked = 1 + max(fewest(yes, many), fewest(no, many))
            best = asked if best is None else min(best, asked)
    return best


def is_right(cases, many, plan):
    """Whether a thing is a plan, by the words of the document."""
    if not cases:
        return False
    if judges.is_paper(plan, "yes", 1) or judges.is_paper(plan, "no", 1):
        return set().union(*cases.values()) == {plan[0] == "yes"}
    if not judges.is_paper(plan, "ask", 4) or type(plan[1]) is not int or plan[1] not in range(many):
        return False
    k = plan[1]
    return (is_right({flags: told for flags, told in cases.items() if flags[k]}, many, plan[2])
            and is_right({flags: told for flags, told in cases.items() if not flags[k]}, many, plan[3]))


def depth(plan):
    return 1 + max(depth(plan[2]), depth(plan[3])) if plan[0] == "ask" else 0


def asked_first(plan, k):
    """The plan that asks for a tile ahead of it, whatever is answered."""
    return ("ask", k, plan, plan)


class TestAsks(unittest.TestCase):
    def assert_right(self, heap, tiles, tile):
        told = asks(heap, tiles, tile)
        cases = cases_by(heap, tiles, tile)
        self.assertIs(type(told), tuple)
        self.assertEqual(len(told), 3)
        if told[0] == "asks":
            many, plan = told[1:]
            self.assertIs(type(many), int)
            self.assertEqual(many, fewest(cases, len(tiles)))
            self.assertEqual(depth(plan), many)
            self.assertTrue(is_right(cases, len(tiles), plan))
            self.assertIs(is_plan(heap, tiles, tile, plan), True)
            return (told[0], many)
        self.assertEqual(told[0], "never")
        self.assertIn({True, False}, cases.values())
        for shift, flag in zip(told[1:], (True, False)):
            self.assertTrue(judges.is_let(shift))
            self.assertTrue(all([type(part) is Root for part in shift]))
            self.assertLessEqual(digits(shift), 400)
            self.assertTrue(judges.has_all(shift, heap))
            self.assertIs(judges.has_tile(shift, tile), flag)
        answers = [[judges.has_tile(shift, other) for other in tiles] for shift in told[1:]]
        self.assertEqual(answers[0], answers[1])
        return (told[0], None)

    def test_no_ask(self):
        # What is sure or never needs no ask, whatever there is to ask for.
        for tiles in ([], (), [HEAP[0]], [(ZERO, 0, 2)] * 5, tiles_of(Floor((0, 0)), (0, 0), 1)[:5]):
            self.assertEqual(asks(HEAP, tiles, HEAP[0]), ("asks", 0, YES))
            self.assertEqual(asks(HEAP, tiles, (ZERO, 0, 2)), ("asks", 0, NO))
            self.assertEqual(asks(tuple(HEAP), tuple(tiles), (ZERO, 0, 2)), ("asks", 0, NO))

    def test_one_ask(self):
        for heap in ([], HEAP):
            for tile in [tile for tile, told in possible(HEAP, (0, 0), 1) if told == "open"]:
                self.assertEqual(asks(heap, [tile], tile), ("asks", 1, ("ask", 0, YES, NO)))
                self.assertEqual(asks(heap, [HEAP[0], tile], tile)[1], 1)
                self.assertEqual(self.assert_right(heap, [HEAP[0], (ZERO, 0, 2), tile, tile], tile), ("asks", 1))

    def test_no_tiles_to_ask_for(self):
        for tiles in ([], ()):
            self.assertEqual(self.assert_right(HEAP, tiles, (ZERO, 0, 1)), ("never", None))
            self.assertEqual(self.assert_right([], tiles, (ZERO, 0, 1)), ("never", None))
            self.assertEqual(asks([], tiles, (FAR_STEP, 0, 1))[0], "never")

    def test_five_asks(self):
        self.assertEqual(self.assert_right(HEAP, FIVE, SIXTH), ("asks", 5))
        for at in range(5):
            self.assertEqual(self.assert_right(HEAP, FIVE[:at] + FIVE[at + 1:], SIXTH), ("never", None))
            self.assertEqual(self.assert_right(HEAP, FIVE, FIVE[at])[1], 1)
        self.assertEqual(self.assert_right(HEAP, FIVE[:4] + [SIXTH], SIXTH), ("asks", 1))

    def test_round_a_corner(self):
        # Just one of the six tiles over an eighth of the round at a corner is there.
        six = over_the_eighth(ZERO, 0)
        found = set()
        for heap in [[tile] for tile in over_the_eighth(ZERO, 2) + [((0, 1, 1, 1), 2, 3)]]:
            for tile in six:
                tiles = [other for other in six if other != tile]
                kind, many = self.assert_right(heap, tiles, tile)
                still = len([other for other in six if word(heap, other)[0] == "open"])
                # All that are open but one are to be asked for, if all answer no.
                if word(heap, tile)[0] == "open" and kind == "asks":
                    self.assertEqual(many, still - 1)
                    found.add(many)
        self.assertGreater(len(found), 2)

    def test_some(self):
        dice = seeded(231)
        seen = {}
        for turn in range(220):
            floor = Floor(SHIFTS[turn % 5])
            tiles = tiles_of(floor, (0, 0), 2)
            heap = some_heap(dice, tiles, (1, 2, 5)[turn % 3])
            near = [tile for tile, told in possible(heap, (0, 0), 2)]
            some = dice.sample(near, min(len(near), dice.randint(1, 5)))
            told = self.assert_right(heap, some, dice.choice(near))
            seen[told] = seen.get(told, 0) + 1
        for key in [("never", None), ("asks", 0), ("asks", 1), ("asks", 2)]:
            self.assertGreater(seen.get(key, 0), 3, seen)

    def test_fewer_asks_if_well_chosen(self):
        # Where the answers for one tile tell what to ask for next, there are plans with unlike branches.
        dice = seeded(232)
        shapes = set()
        for turn in range(300):
            tiles = tiles_of(Floor(SHIFTS[turn % 5]), (0, 0), 2)
            heap = some_heap(dice, tiles, 2)
            near = [tile for tile, told in possible(heap, (0, 0), 2) if told == "open"]
            if len(near) < 6:
                continue
            some = dice.sample(near, 6)
            told = asks(heap, some[:5], some[5])
            if told[0] == "asks" and told[1] > 1:
                self.assert_right(heap, some[:5], some[5])
                shapes.add(shape(told[2]))
        self.assertGreater(len(shapes), 2)

    def test_empty_heap(self):
        dice = seeded(233)
        floor = Floor((0, 0))
        tiles = tiles_of(floor, (0, 0), 1)
        for _ in range(12):
            some = dice.sample(tiles, 5)
            self.assert_right([], some[:3], some[4])
        self.assertEqual(asks([], [(FAR_STEP, 0, 1)], (FAR_STEP, 0, 1))[1], 1)
        self.assertEqual(asks([], APART, (ZERO, 1, 3))[:2], ("asks", 1))

    def test_far_away(self):
        dice = seeded(234)
        far = far_corner(60)
        for turn in range(12):
            tiles = tiles_of(Floor(SHIFTS[turn % 5]), (0, 0), 2)
            heap = some_heap(dice, tiles, 3)
            some = dice.sample(tiles, 4)
            here = asks(heap, some[:3], some[3])
            v = (some_corner(dice, HUGE), far)[turn % 2]
            there = asks(moved(heap, v), moved(some[:3], v), moved(some[3:], v)[0])
            # The same plans do for what is moved.
            self.assertEqual(here[0], there[0])
            if here[0] == "asks":
                self.assertEqual(here, there)
            else:
                for shift, flag in zip(there[1:], (True, False)):
                    self.assertLessEqual(digits(shift), 400)
                    self.assertIs(judges.has_tile(shift, moved(some[3:], v)[0]), flag)
                    self.assertTrue(judges.has_all(shift, moved(heap, v)))

    def test_wrong(self):
        for heap, index in bad_heaps():
            with self.assertRaises(BadHeap) as caught:
                asks(heap, None, None)
            self.assertEqual(caught.exception.index, index)
            self.assertIsInstance(caught.exception, FloorError)
        for heap in (THREE, APART, tuple(THREE)):
            for tiles in (None, []):
                with self.assertRaises(NotHeld):
                    asks(heap, tiles, None)
        for tiles in [thing for thing in odd_things() if not isinstance(thing, list)] + [
                0, HUGE, [HEAP[0]] * 6, (HEAP[0],) * 6, [None] * 6, [HEAP[0]] * 5 + [None], {0: HEAP[0]}]:
            for heap in ([], HEAP):
                with self.assertRaises(BadAsked) as caught:
                    asks(heap, tiles, None)
                self.assertEqual(caught.exception.index, -1)
                self.assertIs(type(caught.exception.index), int)
        for thing in bad_items():
            for at in (0, 2, 4):
                row = [HEAP[0]] * at + [thing] + [None] * (4 - at)
                for tiles in (row, tuple(row)):
                    with self.assertRaises(BadAsked) as caught:
                        asks(HEAP, tiles, None)
                    self.assertEqual(caught.exception.index, at)
        for thing in bad_tiles():
            for tiles in ([], HEAP, [HEAP[0]] * 5):
                with self.assertRaises(BadTile) as caught:
                    asks(HEAP, tiles, thing)
                self.assertIs(caught.exception.tile, thing)

    def test_nothing_changes(self):
        heap, tiles = list(HEAP), over_the_eighth(ZERO, 0)[:5]
        kept = copy.deepcopy((heap, tiles))
        for tile in over_the_eighth(ZERO, 0):
            self.assertEqual(asks(heap, tiles, tile), asks(heap, tiles, tile))
            is_plan(heap, tiles, tile, asks(heap, tiles, tile)[2])
        self.assertEqual((heap, tiles), kept)

    def test_in_time(self):
        begin = time.monotonic()
        dice = seeded(235)
        most = set()
        for shift in SHIFTS[:5]:
            floor = Floor(shift)
            tiles = tiles_of(floor, (0, 0), 8)
            for heap in (dice.sample(tiles, 40), tiles[:40]):
                near = [tile for tile, told in possible(heap, (0, 0), 3) if told == "open"] + tiles[-6:]
                for _ in range(5):
                    some = dice.sample(near, 6)
                    told = asks(heap, some[:5], some[5])
                    if told[0] == "asks":
                        is_plan(heap, some[:5], some[5], told[2])
                    most.add(told[0])
        asks([], tiles_of(Floor((0, 0)), (0, 0), 2)[:5], (ZERO, 0, 1))
        self.assertLess(time.monotonic() - begin, 20)


def shape(plan):
    return (plan[0], shape(plan[2]), shape(plan[3])) if plan[0] == "ask" else plan[0]


class TestIsPlan(unittest.TestCase):
    def test_asks_more_often_than_it_must(self):
        tile = (ZERO, 0, 1)
        other = [other for other, told in possible(HEAP, (0, 0), 1) if told == "open" and other != tile]
        seen = {True: 0, False: 0}
        for some in other:
            tiles = [some, tile]
            plan = asked_first(("ask", 1, YES, NO), 0)
            right = is_right(cases_by(HEAP, tiles, tile), 2, plan)
            self.assertIs(is_plan(HEAP, tiles, tile, plan), right)
            self.assertIs(is_plan(HEAP, tiles, tile, ("ask", 1, YES, NO)), True)
            # Behind the answer yes or no nothing is left to be settled, but one may ask on.
            for plan in [("ask", 1, ("ask", 0, YES, YES), NO), ("ask", 1, YES, ("ask", 0, NO, NO))]:
                self.assertIs(is_plan(HEAP, tiles, tile, plan), is_right(cases_by(HEAP, tiles, tile), 2, plan))
                seen[is_plan(HEAP, tiles, tile, plan)] += 1
        self.assertGreater(min(seen.values()), 5, seen)

    def test_wrong_ends(self):
        tile = (ZERO, 0, 1)
        for plan in [YES, NO, ("ask", 0, NO, YES), ("ask", 0, YES, YES), ("ask", 0, NO, NO)]:
            self.assertIs(is_plan(HEAP, [tile], tile, plan), False)
            self.assertIs(is_plan([], [tile], tile, plan), False)
        self.assertIs(is_plan(HEAP, [tile], tile, ("ask", 0, YES, NO)), True)
        self.assertIs(is_plan(HEAP, [], HEAP[0], YES), True)
        self.assertIs(is_plan(HEAP, [], HEAP[0], NO), False)
        self.assertIs(is_plan(HEAP, [], (ZERO, 0, 2), NO), True)
        self.assertIs(is_plan(HEAP, [], (ZERO, 0, 2), YES), False)
        for plan in (YES, NO):
            self.assertIs(is_plan(HEAP, [], tile, plan), False)

    def test_a_branch_that_no_floor_fits(self):
        tile = (ZERO, 0, 1)
        # The tile of the heap is there, and a tile that was asked for answers the same again.
        for plan in [("ask", 1, ("ask", 0, YES, NO), YES), ("ask", 1, ("ask", 0, YES, NO), NO),
                     ("ask", 0, ("ask", 0, YES, NO), NO), ("ask", 0, YES, ("ask", 0, YES, NO)),
                     ("ask", 0, ("ask", 0, YES, YES), NO), ("ask", 1, ("ask", 0, YES, NO), ("ask", 0, YES, NO))]:
            self.assertIs(is_plan(HEAP, [tile, HEAP[0]], tile, plan), False)

    def test_spoiled(self):
        told = asks(HEAP, FIVE, SIXTH)
        self.assertEqual(told[:2], ("asks", 5))
        cases = cases_by(HEAP, FIVE, SIXTH)
        self.assertIs(is_plan(HEAP, FIVE, SIXTH, told[2]), True)
        seen = {True: 0, False: 0}
        for thing in judges.spoiled(told[2]):
            right = is_right(cases, 5, thing)
            self.assertIs(is_plan(HEAP, FIVE, SIXTH, thing), right, thing)
            seen[right] += 1
        self.assertGreater(seen[False], 100)
        for words in [("YES",), ("yes", 0), ["yes"], "yes", (b"yes",), ("no",), ("ask",), ("ask", 0, YES), ("yes",) * 2]:
            self.assertIs(is_plan(HEAP, [], HEAP[0], words), False)
        # The whole answer of asks is no plan.
        self.assertIs(is_plan(HEAP, FIVE, SIXTH, told), False)

    def test_other_orders(self):
        # One may ask for the five in any order.
        first = ("ask", 4, NO, ("ask", 3, NO, ("ask", 2, NO, ("ask", 1, NO, ("ask", 0, NO, YES)))))
        self.assertIs(is_plan(HEAP, FIVE, SIXTH, first), True)
        for at in range(5):
            plan = YES
            for k in range(5):
                plan = ("ask", (k + at) % 5, NO, plan)
            self.assertIs(is_plan(HEAP, FIVE, SIXTH, plan), True)
            for k in (True, 5, -1, None, "0", Root(0, 0, 1)):
                self.assertIs(is_plan(HEAP, FIVE, SIXTH, ("ask", k, NO, plan)), False)
        self.assertIs(is_plan(HEAP, FIVE, SIXTH, ("ask", 4, NO, ("ask", 3, NO, YES))), False)

    def test_odd_things(self):
        for thing in odd_things() + odd_tuples() + [0, (ZERO, 0, 1), YES + (None,)]:
            for heap in ([], HEAP):
                self.assertIs(is_plan(heap, [(ZERO, 0, 1)], (ZERO, 0, 1), thing), False)
                self.assertIs(is_plan(heap, [(ZERO, 0, 1)], (ZERO, 0, 1), ("ask", 0, YES, thing)), False)
                self.assertIs(is_plan(heap, [(ZERO, 0, 1)], (ZERO, 0, 1), ("ask", 0, thing, NO)), False)

    def test_deep_things(self):
        thing = YES
        for _ in range(19):
            thing = ("ask", 0, thing, thing)
        self.assertIs(is_plan(HEAP, [(ZERO, 0, 1)], (ZERO, 0, 1), thing), False)

    def test_of_other_tiles(self):
        dice = seeded(236)
        tiles = [tile for tile, told in possible(HEAP, (0, 0), 1)] + [(ZERO, 0, 2), ((0, 0, 0, -1), 1, 2)]
        seen = {True: 0, False: 0}
        for _ in range(200):
            some = dice.sample(tiles, 4)
            told = asks(HEAP, some[:3], some[3])
            if told[0] == "asks":
                for tile in some + dice.sample(tiles, 3):
                    right = is_right(cases_by(HEAP, some[:3], tile), 3, told[2])
                    self.assertIs(is_plan(HEAP, some[:3], tile, told[2]), right)
                    seen[right] += 1
        self.assertGreater(min(seen.values()), 10, seen)


class TestOfThisFile(unittest.TestCase):
    def test_cases(self):
        self.assertEqual(cases_by(HEAP, [HEAP[0]], HEAP[0]), {(True,): {True}})
        self.assertEqual(cases_by([], APART, APART[0]), {(True, False): {True}, (False, True): {False}, (False, False): {False}})


if __name__ == "__main__":
    unittest.main()
