"""Short Weierstrass curves."""

from curveseal.doubling import multiply_by_bits
from curveseal.errors import OutOfRange, Refused
from curveseal.modular import inverse, is_residue, is_residue_pair, root_with_parity


class Curve:
    """The pairs (x, y) with y^2 = x^3 + a x + b modulo a prime, and None for infinity."""

    def __init__(self, prime, a, b):
        if prime < 5 or prime % 2 == 0:
            raise OutOfRange("the prime is less than 5 or even")
        self.prime = prime
        self.a = a % prime
        self.b = b % prime
        if (4 * self.a ** 3 + 27 * self.b ** 2) % prime == 0:
            raise Refused("the curve is singular")

    def has(self, point):
        """Tell whether a value of any kind is a point of the curve."""
        if point is None:
            return True
        if not is_residue_pair(point, self.prime):
            return False
        return (point[1] ** 2 - self._right_side(point[0])) % self.prime == 0

    def _right_side(self, x):
        return (x ** 3 + self.a * x + self.b) % self.prime

    def negate(self, point):
        """Return the negative of a point."""
        if point is None:
            return None
        return (point[0], -point[1] % self.prime)

    def add(self, first, second):
        """Return the sum of two points."""
        if first is None:
            return second
        if second is None:
            return first
        if second == self.negate(first):
            return None
        slope = self._slope(first, second)
        x = (slope ** 2 - first[0] - second[0]) % self.prime
        return (x, (slope * (first[0] - x) - first[1]) % self.prime)

    def _slope(self, first, second):
        """Return the slope for two points, none of which is the negative of the other."""
        if first == second:
            rise, run = 3 * first[0] ** 2 + self.a, 2 * first[1]
        else:
            rise, run = second[1] - first[1], second[0] - first[0]
        return rise * inverse(run, self.prime) % self.prime

    def double(self, point):
        """Return the sum of a point and itself."""
        return self.add(point, point)

    def multiply(self, factor, point):
        """Return the multiple of a point by any integer."""
        return multiply_by_bits(self, None, factor, point)

    def lift(self, x, odd):
        """Return the point with this x whose y is odd exactly if odd is True, or None."""
        if not is_residue(x, self.prime):
            return None
        y = root_with_parity(self._right_side(x), self.prime, odd)
        return None if y is None else (x, y)
