import unittest

from threetiles import errors

from samples import nested

KEEPING = {
    "BadNumber": "value", "BadPoint": "point", "BadCorner": "corner", "BadDirection": "direction",
    "Barred": "direction", "NoCorner": "corner", "BadTile": "tile", "NoTile": "tile", "BadSide": "side",
    "BadSize": "size", "BadBounds": "index", "BadLot": "index", "BadPiece": "piece", "TooMany": "limit",
    "BadHeap": "index", "BadAbsent": "index", "BadFloor": "floor", "BadRibbon": "ribbon",
    "BadShift": "index", "BadRibbons": "index", "BadKind": "kind", "NoSide": "direction",
    "BadAsked": "index", "Known": "tile", "Clash": "tree", "BadText": "row",
}
BARE = [
    "EmptyPiece", "Unbounded", "NotHeld", "EmptyHeap", "NotSettled", "BadPrices", "SameWay", "BadProgram",
    "BadStranger", "NothingDone",
]


class TestErrors(unittest.TestCase):
    def test_all_stand_directly_below_floor_error(self):
        self.assertEqual(errors.FloorError.__bases__, (ValueError,))
        for name in list(KEEPING) + BARE:
            self.assertEqual(getattr(errors, name).__bases__, (errors.FloorError,), name)

    def test_no_others_are_defined(self):
        defined = [name for name in vars(errors) if isinstance(vars(errors)[name], type)]
        self.assertEqual(sorted(defined), sorted(list(KEEPING) + BARE + ["FloorError"]))

    def test_each_keeps_the_very_thing(self):
        for name, attribute in KEEPING.items():
            for thing in [None, 3, "text", [1, [2]], {"a": 1}, (1, 2), object(), nested(20), 10 ** 60, True]:
                error = getattr(errors, name)(thing)
                self.assertIs(getattr(error, attribute), thing)
                self.assertEqual(list(vars(error)), [attribute])

    def test_bare_ones_are_made_with_nothing(self):
        for name in BARE:
            with self.assertRaises(errors.FloorError):
                raise getattr(errors, name)()
            with self.assertRaises(ValueError):
                raise getattr(errors, name)()

    def test_keeping_ones_need_one_thing(self):
        for name in KEEPING:
            with self.assertRaises(TypeError):
                getattr(errors, name)()
            with self.assertRaises(TypeError):
                getattr(errors, name)(1, 2)

    def test_one_is_not_caught_as_another(self):
        with self.assertRaises(errors.BadNumber):
            try:
                raise errors.BadNumber(1)
            except errors.BadPoint:
                pass


if __name__ == "__main__":
    unittest.main()
