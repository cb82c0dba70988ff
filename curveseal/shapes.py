"""Twisted Edwards curves as Montgomery curves and as short Weierstrass curves.

The Montgomery curve is B v^2 = u^3 + A u^2 + u.
"""

from curveseal.errors import NotAPoint, OutOfRange
from curveseal.modular import inverse, is_residue_pair
from curveseal.weierstrass import Curve


def montgomery_numbers(curve):
    """Return the tuple (A, B) of the Montgomery curve."""
    p = curve.prime
    scale = inverse(curve.a - curve.d, p)
    return (2 * (curve.a + curve.d) * scale % p, 4 * scale % p)


def to_montgomery(curve, point):
    """Return the pair (u, v) of a point, or None for the neutral point."""
    x, y = point
    if x == 0:
        return None if y == 1 else (0, 0)
    p = curve.prime
    u = (1 + y) * inverse(1 - y, p) % p
    return (u, u * inverse(x, p) % p)


def from_montgomery(curve, pair):
    """Return the point of a pair (u, v), or of None."""
    if pair is None:
        return (0, 1)
    if not _on_montgomery(curve, pair):
        raise NotAPoint("the pair is no point of the Montgomery curve")
    p = curve.prime
    u, v = pair
    # No other point has v = 0, because A^2 - 4 is no square, and none has u = -1, because d is none.
    if v == 0:
        return (0, p - 1)
    return (u * inverse(v, p) % p, (u - 1) * inverse(u + 1, p) % p)


def _on_montgomery(curve, pair):
    if not is_residue_pair(pair, curve.prime):
        return False
    u, v = pair
    a, b = montgomery_numbers(curve)
    return (b * v ** 2 - u ** 3 - a * u ** 2 - u) % curve.prime == 0


def weierstrass_of(curve):
    """Return the short Weierstrass curve."""
    _check_prime(curve)
    p = curve.prime
    a, b = montgomery_numbers(curve)
    new_a = (3 - a ** 2) * inverse(3 * b ** 2, p)
    new_b = (2 * a ** 3 - 9 * a) * inverse(27 * b ** 3, p)
    return Curve(p, new_a, new_b)


def _check_prime(curve):
    if curve.prime < 5:
        raise OutOfRange("the prime is less than 5")


def to_weierstrass(curve, point):
    """Return the point of the short Weierstrass curve."""
    _check_prime(curve)
    pair = to_montgomery(curve, point)
    if pair is None:
        return None
    p = curve.prime
    a, b = montgomery_numbers(curve)
    scale = inverse(b, p)
    return ((pair[0] + a * inverse(3, p)) * scale % p, pair[1] * scale % p)


def from_weierstrass(curve, point):
    """Return the point of the Edwards curve."""
    if not weierstrass_of(curve).has(point):
        raise NotAPoint("the point is not on the short Weierstrass curve")
    if point is None:
        return (0, 1)
    p = curve.prime
    a, b = montgomery_numbers(curve)
    return from_montgomery(curve, ((b * point[0] - a * inverse(3, p)) % p, b * point[1] % p))
