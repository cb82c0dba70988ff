"""Jacobian coordinates of the points of short Weierstrass curves."""

from curveseal.doubling import bits_from_top
from curveseal.modular import inverse

INFINITY = (1, 1, 0)


def to_jacobian(point):
    """Return a triple that stands for a point."""
    if point is None:
        return INFINITY
    return (point[0], point[1], 1)


def from_jacobian(curve, triple):
    """Return the point for which a triple stands."""
    x, y, z = triple
    if z == 0:
        return None
    scale = inverse(z, curve.prime)
    square = scale * scale % curve.prime
    return (x * square % curve.prime, y * square * scale % curve.prime)


def double_jacobian(curve, triple):
    """Return the triple of the sum of a point and itself."""
    x, y, z = triple
    if y == 0 or z == 0:
        return INFINITY
    p = curve.prime
    y_square = y * y % p
    s = 4 * x * y_square % p
    m = (3 * x * x + curve.a * z ** 4) % p
    x3 = (m * m - 2 * s) % p
    y3 = (m * (s - x3) - 8 * y_square * y_square) % p
    return (x3, y3, 2 * y * z % p)


def add_jacobian(curve, first, second):
    """Return the triple of the sum of two points."""
    if first[2] == 0:
        return second
    if second[2] == 0:
        return first
    p = curve.prime
    u1, s1 = _scaled(first, second[2], p)
    u2, s2 = _scaled(second, first[2], p)
    if u1 == u2:
        return double_jacobian(curve, first) if s1 == s2 else INFINITY
    h = u2 - u1
    r = s2 - s1
    h_square = h * h % p
    h_cube = h * h_square % p
    v = u1 * h_square % p
    x3 = (r * r - h_cube - 2 * v) % p
    y3 = (r * (v - x3) - s1 * h_cube) % p
    return (x3, y3, h * first[2] * second[2] % p)


def _scaled(triple, z, prime):
    """Return X * z^2 and Y * z^3 of a triple (X, Y, Z)."""
    square = z * z % prime
    return triple[0] * square % prime, triple[1] * square * z % prime


def same_point(curve, first, second):
    """Tell whether two triples stand for one point."""
    if first[2] == 0 or second[2] == 0:
        return first[2] == second[2]
    return _scaled(first, second[2], curve.prime) == _scaled(second, first[2], curve.prime)


def multiply_jacobian(curve, factor, point):
    """Return the multiple of a point by any integer, as a point."""
    start = to_jacobian(curve.negate(point) if factor < 0 else point)
    result = INFINITY
    for bit in bits_from_top(abs(factor)):
        result = double_jacobian(curve, result)
        if bit == 1:
            result = add_jacobian(curve, result, start)
    return from_jacobian(curve, result)
