"""The examples of the document, word by word."""

import unittest

from threetiles.bars import bars
from threetiles.corners import greater, place, star, turned
from threetiles.floors import Floor, barred
from threetiles.greater import greater_floor, seam
from threetiles.heaps import held
from threetiles.kinds import kinds
from threetiles.lots import window
from threetiles.pieces import Piece
from threetiles.ribbons import crossing
from threetiles.roots import Root
from threetiles.texts import number_text, write_heap
from threetiles.walkers import alike
from threetiles.words import word


class TestExamples(unittest.TestCase):
    def test_e01(self):
        a = Root(2, 4, 6)
        self.assertEqual((a.top, a.root, a.bottom, Root(0, 1, 1).whole(), Root(1, 1, 1) * Root(-1, 1, 1) == 1),
                         (1, 2, 3, 1, True))

    def test_e02(self):
        told = (place((0, 1, 0, 0)) == (Root(0, 1, 2), Root(0, 1, 2)), star((0, 1, 0, 0)) == (Root(0, -1, 2), Root(0, 1, 2)),
                greater((1, 0, 0, 0)), turned((1, 2, 3, 4), 1))
        self.assertEqual(told, (True, True, (1, 1, 0, -1), (-4, 1, 2, 3)))

    def test_e03(self):
        floor = Floor((0, 0))
        told = (floor.sides((0, 0, 0, 0)), floor.tiles_at((0, 0, 0, 0))[0], floor.has_tile(((0, 0, 0, 0), 0, 2)),
                barred((Root(1, 0, 2), 0)))
        self.assertEqual(told, ((0, 1, 2, 3, 4, 5, 6, 7), ((0, 0, 0, 0), 0, 1), False, 2))

    def test_e04(self):
        told = (window().area() == Root(2, 2, 1), bars([(0, 0), (4, 0)]), bars([(0, 1), (4, 0)]),
                Piece([(0, 1), (2, 1), (5, 1)]).area() == Root(9, 0, 2))
        self.assertEqual(told, (True, ((0, 1), (1, 1)), None, True))

    def test_e05(self):
        heap = [((0, 4, 6, 4), 1, 3), ((1, 0, 0, -1), 1, 3), ((-1, 0, 0, 2), 0, 2)]
        self.assertEqual([held(some)[0] for some in [heap, heap[:2], heap[1:], heap[::2]]],
                         ["bars", "floor", "floor", "floor"])

    def test_e06(self):
        heap = [((0, 0, 0, 0), 1, 3)]
        self.assertEqual([word(heap, tile)[0] for tile in [heap[0], ((0, 0, 0, 0), 0, 2), ((0, 0, 0, 0), 0, 1)]],
                         ["sure", "never", "open"])

    def test_e07(self):
        self.assertEqual(crossing(Floor((0, 0)), (0, 0), (2, 0)), ((0, 1, 0, 0), 0, 2))

    def test_e08(self):
        self.assertEqual([share == Root(17, -12, 1) for kind, share in kinds() if len(kind) == 8], [True])

    def test_e09(self):
        there = (("go",), ("turn", 4), ("go",), ("turn", 4))
        self.assertEqual((alike((("ask", 0, there, ()),), ())[0], alike((("go",),), ())[0]), ("alike", "apart"))

    def test_e10(self):
        floor = Floor((0, 0))
        self.assertEqual((greater_floor(floor) == floor, seam(floor, (0, 0, 0, 0), 0)),
                         (True, ("side", ((1, 0, 0, -1), 1, 3))))

    def test_e11(self):
        self.assertEqual((number_text(Root(3, -1, 2)), number_text(4), write_heap([((0, 0, 0, 0), 0, 1)])),
                         ("3-r/2", "4", "tile 0 0 0 0 0 1"))


if __name__ == "__main__":
    unittest.main()
