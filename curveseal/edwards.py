"""Twisted Edwards curves."""

from curveseal.doubling import multiply_by_bits
from curveseal.errors import OutOfRange, Refused
from curveseal.modular import inverse, is_residue, is_residue_pair, root_with_parity, square_class

NEUTRAL = (0, 1)


class EdwardsCurve:
    """The pairs (x, y) with a x^2 + y^2 = 1 + d x^2 y^2 modulo a prime."""

    def __init__(self, prime, a, d):
        if prime < 3 or prime % 2 == 0:
            raise OutOfRange("the prime is less than 3 or even")
        if square_class(a, prime) != 1:
            raise Refused("a is no square other than 0")
        if square_class(d, prime) != -1:
            raise Refused("d is a square")
        self.prime = prime
        self.a = a % prime
        self.d = d % prime

    def has(self, point):
        """Tell whether a value of any kind is a point of the curve."""
        if not is_residue_pair(point, self.prime):
            return False
        x_square, y_square = point[0] ** 2, point[1] ** 2
        return (self.a * x_square + y_square - 1 - self.d * x_square * y_square) % self.prime == 0

    def negate(self, point):
        """Return the negative of a point."""
        return (-point[0] % self.prime, point[1])

    def add(self, first, second):
        """Return the sum of two points."""
        x1, y1 = first
        x2, y2 = second
        t = self.d * x1 * x2 * y1 * y2
        x3 = (x1 * y2 + y1 * x2) * inverse(1 + t, self.prime) % self.prime
        y3 = (y1 * y2 - self.a * x1 * x2) * inverse(1 - t, self.prime) % self.prime
        return (x3, y3)

    def double(self, point):
        """Return the sum of a point and itself."""
        return self.add(point, point)

    def multiply(self, factor, point):
        """Return the multiple of a point by any integer."""
        return multiply_by_bits(self, NEUTRAL, factor, point)

    def lift(self, y, odd):
        """Return the point with this y whose x is odd exactly if odd is True, or None."""
        if not is_residue(y, self.prime):
            return None
        divisor = self.d * y ** 2 - self.a
        x_square = (y ** 2 - 1) * inverse(divisor, self.prime)
        x = root_with_parity(x_square, self.prime, odd)
        return None if x is None else (x, y)
