"""What several tests share: odd things to pass, and numbers to pass them with."""

from random import Random

from threetiles.errors import BadNumber, EmptyPiece
from threetiles.roots import Root

HUGE = 10 ** 59 + 7


def nested(deep):
    """A list in a list, so many deep."""
    thing = []
    for _ in range(deep):
        thing = [thing]
    return thing


def odd_things():
    """Objects of built-in kinds, and of the package, that are no integers and no tuples."""
    return [
        None, True, False, "", "0", "(0, 0)", b"", b"\x00", bytearray(b"ab"), memoryview(b"ab"),
        [], [0], [0, 0], [0, 0, 0, 0], {}, {0: 0, 1: 1}, dict.fromkeys("abcd"), nested(20),
        object(), int, len, print, range(2), range(4), slice(0, 2), Ellipsis, NotImplemented,
        iter([0, 0]), zip([0], [0]), [0, 0].append, (lambda: 0), ValueError("x"),
        BadNumber(3), EmptyPiece(), property(),
    ]


def odd_tuples():
    """Tuples that are neither points nor corners nor tiles nor bounds."""
    return [
        (), (0,), (0, 0, 0), (0, 0, 0, 0, 0), (None, 0), (0, "0"), (True, 0), (0, False), ([0], [0]),
        ((0, 0), (0, 0)), (0, 0, 0, True), (0, None, 0, 0), ("a", "b", "c", "d"),
        (Root(0, 0, 1), 0, 0, 0), (Root(1, 0, 2),), ((), (), ()), (nested(19), 0),
    ]


def seeded(seed):
    """A row of numbers that is the same in each run."""
    return Random(seed)


def some_root(dice, most, bottom):
    """A Root with integers of at most a size."""
    return Root(dice.randint(-most, most), dice.randint(-most, most), dice.randint(1, bottom))


def some_corner(dice, most):
    """A corner with integers of at most a size."""
    return tuple([dice.randint(-most, most) for _ in range(4)])
