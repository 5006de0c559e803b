import unittest
from decimal import Decimal, getcontext
from fractions import Fraction
from math import gcd

from threetiles.errors import BadNumber, FloorError
from threetiles.roots import Root

from samples import HUGE, odd_things, odd_tuples, seeded, some_root


def parts(root):
    return (root.top, root.root, root.bottom)


def powers():
    """The powers of 1 - r and of r - 1: ever nearer to 0, and all unlike."""
    falling = Root(1, -1, 1)
    power = Root(1, 0, 1)
    found = []
    for _ in range(60):
        power = power * falling
        found.append(power)
    return found


class TestMaking(unittest.TestCase):
    def test_example(self):
        a = Root(2, 4, 6)
        self.assertEqual(
            (a.top, a.root, a.bottom, Root(0, 1, 1).whole(), Root(1, 1, 1) * Root(-1, 1, 1) == 1),
            (1, 2, 3, 1, True))

    def test_lowest_terms(self):
        self.assertEqual(parts(Root(2, 4, -6)), (-1, -2, 3))
        self.assertEqual(parts(Root(6, 10, 15)), (6, 10, 15))
        self.assertEqual(parts(Root(6, 9, 15)), (2, 3, 5))
        self.assertEqual(parts(Root(0, 0, -7)), (0, 0, 1))
        self.assertEqual(parts(Root(0, 0, 5)), (0, 0, 1))
        self.assertEqual(parts(Root(0, -4, -2)), (0, 2, 1))
        self.assertEqual(parts(Root(-4, 0, -8)), (1, 0, 2))
        self.assertEqual(parts(Root(5, 0, 1)), (5, 0, 1))
        self.assertEqual(parts(Root(HUGE * 6, HUGE * 4, -HUGE * 2)), (-3, -2, 1))

    def test_first_bad_argument_is_told(self):
        for thing in odd_things() + odd_tuples() + [Root(1, 0, 1)]:
            for row in [(thing, 0, 1), (thing, None, 0), (thing, "x", None)]:
                with self.assertRaises(BadNumber) as caught:
                    Root(*row)
                self.assertIs(caught.exception.value, thing)
            with self.assertRaises(BadNumber) as caught:
                Root(3, thing, 0)
            self.assertIs(caught.exception.value, thing)
            with self.assertRaises(BadNumber) as caught:
                Root(3, -2, thing)
            self.assertIs(caught.exception.value, thing)

    def test_bottom_zero(self):
        with self.assertRaises(BadNumber) as caught:
            Root(1, 2, 0)
        self.assertEqual(caught.exception.value, 0)
        self.assertNotIsInstance(caught.exception.value, bool)
        with self.assertRaises(BadNumber) as caught:
            Root("one", 2, 0)
        self.assertEqual(caught.exception.value, "one")
        self.assertIsInstance(caught.exception, FloorError)
        self.assertIsInstance(caught.exception, ValueError)


class TestSums(unittest.TestCase):
    def test_beside_integers_on_both_sides(self):
        a = Root(1, 2, 3)
        self.assertEqual(parts(a + 2), (7, 2, 3))
        self.assertEqual(parts(2 + a), (7, 2, 3))
        self.assertEqual(parts(a - 2), (-5, 2, 3))
        self.assertEqual(parts(2 - a), (5, -2, 3))
        self.assertEqual(parts(a * -6), (-2, -4, 1))
        self.assertEqual(parts(-6 * a), (-2, -4, 1))
        self.assertEqual(parts(-a), (-1, -2, 3))
        self.assertEqual(parts(0 * a), (0, 0, 1))

    def test_of_two_roots(self):
        one, other = Root(1, 2, 3), Root(-1, 1, 2)
        self.assertEqual(parts(one + other), (-1, 7, 6))
        self.assertEqual(parts(one - other), (5, 1, 6))
        self.assertEqual(parts(other - one), (-5, -1, 6))
        self.assertEqual(parts(one * other), (3, -1, 6))
        self.assertEqual(parts(Root(0, 1, 1) * Root(0, 1, 1)), (2, 0, 1))

    def test_all_tell_roots(self):
        a = Root(3, 0, 1)
        for told in [a + 1, 1 + a, a - 3, 3 - a, a * 0, 0 * a, -a, a + a, a - a, a * a, a.over(3), a.turned()]:
            self.assertIs(type(told), Root)

    def test_nothing_is_changed(self):
        a, b = Root(1, 2, 3), Root(4, -5, 6)
        for told in [a + b, a - b, a * b, -a, a.over(b), a.less(b), a.sign(), a.whole(), a.nearest(), a.turned()]:
            self.assertEqual((parts(a), parts(b)), ((1, 2, 3), (4, -5, 6)))
            self.assertIsNot(told, a)

    def test_laws_hold(self):
        dice = seeded(11)
        for most in (3, 50, HUGE):
            for _ in range(60):
                a, b, c = [some_root(dice, most, most) for _ in range(3)]
                n = dice.randint(-most, most)
                self.assertEqual((a + b) * c, a * c + b * c)
                self.assertEqual(a - b, -(b - a))
                self.assertEqual(a * n, n * a)
                self.assertEqual(a - n, -(n - a))
                self.assertEqual(a + n, n + a)
                self.assertEqual((a + b) - b, a)
                self.assertEqual((a * b).turned(), a.turned() * b.turned())
                self.assertEqual(gcd(gcd(*parts(a * b)[:2]), parts(a * b)[2]), 1)


class TestEqual(unittest.TestCase):
    def test_to_numbers(self):
        self.assertTrue(Root(4, 0, 2) == 2)
        self.assertTrue(2 == Root(4, 0, 2))
        self.assertTrue(Root(1, 2, 3) == Root(-2, -4, -6))
        self.assertFalse(Root(4, 0, 2) != 2)
        self.assertTrue(Root(4, 0, 2) != 3)
        self.assertFalse(Root(1, 0, 2) == 1)
        self.assertFalse(Root(1, 1, 1) == 1)
        self.assertFalse(Root(0, 1, 1) == 1)
        self.assertFalse(Root(1, 2, 3) == Root(1, -2, 3))
        self.assertFalse(Root(1, 2, 3) == Root(1, 2, 5))
        self.assertFalse(Root(1, 2, 3) == Root(2, 2, 3))
        self.assertTrue(Root(HUGE, 0, 1) == HUGE)
        self.assertTrue((Root(1, 0, 1), 2) == (1, Root(2, 0, 1)))

    def test_to_nothing_else(self):
        for root, thing in [(Root(1, 0, 1), True), (Root(0, 0, 1), False), (Root(1, 0, 1), "1"),
                            (Root(0, 0, 1), None), (Root(0, 0, 1), ""), (Root(1, 2, 3), (1, 2, 3)),
                            (Root(1, 2, 3), [1, 2, 3]), (Root(0, 0, 1), ()), (Root(0, 0, 1), BadNumber(0))]:
            self.assertIs(root == thing, False)
            self.assertIs(thing == root, False)
            self.assertIs(root != thing, True)
        for thing in odd_things() + odd_tuples():
            self.assertFalse(Root(0, 0, 1) == thing)


class TestOver(unittest.TestCase):
    def test_ordinary(self):
        self.assertEqual(parts(Root(1, 1, 1).over(Root(-1, 1, 1))), (3, 2, 1))
        self.assertEqual(parts(Root(1, 0, 1).over(Root(0, 1, 1))), (0, 1, 2))
        self.assertEqual(parts(Root(2, 4, 3).over(-2)), (-1, -2, 3))
        self.assertEqual(parts(Root(2, 4, 3).over(Root(-2, 0, 1))), (-1, -2, 3))
        self.assertEqual(parts(Root(0, 0, 1).over(Root(5, 1, 7))), (0, 0, 1))

    def test_undoes_times(self):
        dice = seeded(12)
        for most in (3, 40, HUGE):
            for _ in range(60):
                a, b = some_root(dice, most, most), some_root(dice, most, most)
                if b != 0:
                    self.assertEqual((a * b).over(b), a)
                    self.assertEqual(a.over(b) * b, a)

    def test_wrong(self):
        for thing in odd_things() + odd_tuples() + [0, Root(0, 0, 1), Root(0, 0, -5)]:
            with self.assertRaises(BadNumber) as caught:
                Root(1, 2, 3).over(thing)
            self.assertIs(caught.exception.value, thing)


class TestOrder(unittest.TestCase):
    def test_sign(self):
        for top, root, sign in [(0, 0, 0), (1, 0, 1), (-1, 0, -1), (0, 1, 1), (0, -1, -1), (1, 1, 1),
                                (-1, -1, -1), (3, -2, 1), (-3, 2, -1), (7, -5, -1), (-7, 5, 1)]:
            self.assertEqual(Root(top, root, 1).sign(), sign)
            self.assertEqual(Root(top, root, 9).sign(), sign)
            self.assertEqual(Root(top, root, -9).sign(), -sign)

    def test_less(self):
        self.assertIs(Root(0, 1, 1).less(2), True)
        self.assertIs(Root(0, 1, 1).less(1), False)
        self.assertIs(Root(4, 0, 2).less(2), False)
        self.assertIs(Root(4, 0, 2).less(Root(2, 0, 1)), False)
        self.assertIs(Root(-1, -1, 2).less(Root(-1, 0, 1)), True)
        self.assertIs(Root(7, 0, 5).less(Root(0, 1, 1)), True)
        self.assertIs(Root(0, 1, 1).less(Root(17, 0, 12)), True)

    def test_less_wrong(self):
        for thing in odd_things() + odd_tuples():
            with self.assertRaises(BadNumber) as caught:
                Root(1, 2, 3).less(thing)
            self.assertIs(caught.exception.value, thing)

    def test_powers_near_zero(self):
        for k, power in enumerate(powers()):
            sign = 1 if k % 2 else -1
            self.assertEqual(power.sign(), sign)
            self.assertIs(power.less(0), sign < 0)
            self.assertIs(Root(0, 0, 1).less(power), sign > 0)
            self.assertEqual(power.whole(), 0 if sign > 0 else -1)
            self.assertEqual(power.nearest(), 0)
            self.assertEqual((-power).sign(), -sign)
            self.assertEqual(power.over(power), 1)

    def test_powers_near_integers(self):
        for whole in (-10 ** 40, -3, -1, 1, 2, HUGE):
            for k, power in enumerate(powers()):
                near = power + whole
                above = k % 2 == 1
                self.assertEqual(near.whole(), whole if above else whole - 1)
                self.assertEqual(near.nearest(), whole)
                self.assertIs(near.less(whole), not above)
                self.assertIs(Root(whole, 0, 1).less(near), above)
                self.assertFalse(near == whole)
                half = near + Root(1, 0, 2)
                self.assertEqual(half.nearest(), whole + 1 if above else whole)

    def test_powers_lie_ever_nearer(self):
        found = powers()
        for near, far in zip(found[2:], found):
            self.assertIs(near.less(far), far.sign() > 0)

    def test_whole_and_nearest_of_fractions(self):
        for top in range(-30, 31):
            for bottom in range(1, 9):
                fraction = Fraction(top, bottom)
                root = Root(top, 0, bottom)
                self.assertEqual(root.whole(), fraction.__floor__())
                self.assertEqual(root.nearest(), (fraction + Fraction(1, 2)).__floor__())
        self.assertEqual([Root(k, 0, 2).nearest() for k in (-5, -3, -1, 1, 3, 5)], [-2, -1, 0, 1, 2, 3])

    def test_whole_and_nearest_of_others(self):
        getcontext().prec = 400
        dice = seeded(13)
        r = Decimal(2).sqrt()
        for most in (5, 1000, HUGE):
            for _ in range(150):
                a, b = some_root(dice, most, 12), some_root(dice, most, 12)
                value = (a.top + a.root * r) / a.bottom
                other = (b.top + b.root * r) / b.bottom
                self.assertTrue(0 <= value - a.whole() < 1)
                self.assertTrue(-Decimal("0.5") <= a.nearest() - value <= Decimal("0.5"))
                self.assertIs(a.less(b), a != b and value < other)

    def test_kinds_of_answers(self):
        a = Root(5, 1, 2)
        self.assertIs(type(a.whole()), int)
        self.assertIs(type(a.nearest()), int)
        self.assertIs(type(a.sign()), int)
        self.assertIs(type(a.less(3)), bool)

    def test_turned(self):
        self.assertEqual(parts(Root(1, 2, 3).turned()), (1, -2, 3))
        self.assertEqual(parts(Root(-4, 0, 3).turned()), (-4, 0, 3))
        self.assertEqual(Root(5, -7, 4).turned().turned(), Root(5, -7, 4))


if __name__ == "__main__":
    unittest.main()
