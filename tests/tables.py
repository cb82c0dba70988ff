"""Signatures of two numbers over small groups, checked by tables and without the program."""

from curveseal.groups import Group
from curveseal.weierstrass import Curve
from reference import curve_multiple, curve_points

# The base of the first one has an x-coordinate that is a multiple of its order 3.
NO_NONCE = (7, 0, 4)
ORDER_THREE = (5, 4, 3)
ORDER_TWO = (5, 2, 0)
# The order is less than the prime, so that r may stand for two x-coordinates.
LESS_THAN_THE_PRIME = (23, 1, 19)


def made_group(p, a, b):
    """Return a group of all points of a curve, whose number is a prime."""
    points = curve_points(p, a, b)
    return Group("made", Curve(p, a, b), points[1], len(points), 1)


def number_of(group, digest):
    """Return the message number of point 106, from the bits of the digest."""
    digits = "".join(format(byte, "08b") for byte in digest)[:group.order.bit_length()]
    return int(digits or "0", 2) % group.order


def signature_of(group, secret, nonce, digest):
    """Return the signature of point 107."""
    n, p, a = group.order, group.prime, group.curve.a
    r = curve_multiple(p, a, nonce, group.base)[0] % n
    s = (number_of(group, digest) + r * secret) * pow(nonce, -1, n) % n
    return (r, s) if r != 0 and s != 0 else None


class Tables:
    """The multiples of the base point of a small group, to check signatures without the program."""

    def __init__(self, group):
        self.group = group
        self.points = [curve_multiple(group.prime, group.curve.a, k, group.base) for k in range(group.order)]
        self.places = {point: k for k, point in enumerate(self.points)}

    def checked_point(self, public, digest, signature):
        """Return the point of point 109 by whose x-coordinate a signature is accepted."""
        r, s = signature
        factor = (number_of(self.group, digest) + r * self.places[public]) * pow(s, -1, self.group.order)
        return self.points[factor % self.group.order]

    def accepted(self, public, digest, signature, low=False):
        n = self.group.order
        r, s = signature
        if not (1 <= r < n and 1 <= s < n) or public is None or public not in self.places:
            return False
        point = self.checked_point(public, digest, signature)
        fits = point is not None and point[0] % n == r
        return fits and (not low or s <= (n - 1) / 2)
