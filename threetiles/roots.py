"""Exact numbers (top + root * r) / bottom, where r is the square root of 2."""

from math import gcd, isqrt

from threetiles.errors import BadNumber


def is_integral(thing):
    """Whether a thing is an integer and no flag."""
    return isinstance(thing, int) and not isinstance(thing, bool)


def is_number(thing):
    """Whether a thing is a Root or an integer."""
    return isinstance(thing, Root) or is_integral(thing)


def as_root(number):
    """The Root that is equal to a number."""
    if isinstance(number, Root):
        return number
    return Root(number, 0, 1)


def surd_sign(top, root):
    """1, 0 or -1: the sign of top + root * r, for integers."""
    if top >= 0 and root >= 0:
        return 1 if top > 0 or root > 0 else 0
    if top <= 0 and root <= 0:
        return -1
    # The two parts pull in unlike ways, so the one with the greater square wins.
    # The squares are never equal, as r is no fraction.
    if top * top > 2 * root * root:
        return 1 if top > 0 else -1
    return 1 if root > 0 else -1


def surd_whole(top, root):
    """The greatest integer that is not above top + root * r, for integers."""
    across = isqrt(2 * root * root)
    if root < 0:
        # root * r is no integer, so the next one below it lies one beyond -across.
        return top - across - 1
    return top + across


class Root:
    """The number (top + root * r) / bottom, kept in lowest terms with bottom above 0."""

    def __init__(self, top, root, bottom):
        for value in (top, root, bottom):
            if not is_integral(value):
                raise BadNumber(value)
        if bottom == 0:
            raise BadNumber(bottom)
        shared = gcd(top, root, bottom)
        if bottom < 0:
            shared = -shared
        self.top = top // shared
        self.root = root // shared
        self.bottom = bottom // shared

    def __eq__(self, other):
        if isinstance(other, Root):
            return self.top == other.top and self.root == other.root and self.bottom == other.bottom
        return is_integral(other) and self.root == 0 and self.bottom == 1 and self.top == other

    def __add__(self, other):
        if not is_number(other):
            return NotImplemented
        more = as_root(other)
        top = self.top * more.bottom + more.top * self.bottom
        root = self.root * more.bottom + more.root * self.bottom
        return Root(top, root, self.bottom * more.bottom)

    def __radd__(self, other):
        return self + other

    def __sub__(self, other):
        if not is_number(other):
            return NotImplemented
        less = as_root(other)
        top = self.top * less.bottom - less.top * self.bottom
        root = self.root * less.bottom - less.root * self.bottom
        return Root(top, root, self.bottom * less.bottom)

    def __rsub__(self, other):
        return -self + other

    def __mul__(self, other):
        if not is_number(other):
            return NotImplemented
        by = as_root(other)
        top = self.top * by.top + 2 * self.root * by.root
        root = self.top * by.root + self.root * by.top
        return Root(top, root, self.bottom * by.bottom)

    def __rmul__(self, other):
        return self * other

    def __neg__(self):
        return Root(-self.top, -self.root, self.bottom)

    def over(self, number):
        """This number divided by another one."""
        if not is_number(number) or number == 0:
            raise BadNumber(number)
        by = as_root(number)
        # With the turned number above and below, what is below becomes an integer.
        below = by.top * by.top - 2 * by.root * by.root
        top = self.top * by.top - 2 * self.root * by.root
        root = self.root * by.top - self.top * by.root
        return Root(top * by.bottom, root * by.bottom, self.bottom * below)

    def less(self, number):
        """Whether this number is less than another one."""
        if not is_number(number):
            raise BadNumber(number)
        more = as_root(number)
        top = self.top * more.bottom - more.top * self.bottom
        root = self.root * more.bottom - more.root * self.bottom
        return surd_sign(top, root) < 0

    def sign(self):
        """1, 0 or -1."""
        return surd_sign(self.top, self.root)

    def whole(self):
        """The greatest integer that is not above this number."""
        return surd_whole(self.top, self.root) // self.bottom

    def nearest(self):
        """The nearest integer, of two the greater one."""
        return surd_whole(2 * self.top + self.bottom, 2 * self.root) // (2 * self.bottom)

    def turned(self):
        """The number with -root for root."""
        return Root(self.top, -self.root, self.bottom)
