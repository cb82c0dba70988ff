"""Extended coordinates of the points of twisted Edwards curves."""

from curveseal.doubling import bits_from_top
from curveseal.modular import inverse

NEUTRAL_FOUR = (0, 1, 1, 0)


def to_extended(curve, point):
    """Return a tuple that stands for a point."""
    x, y = point
    return (x, y, 1, x * y % curve.prime)


def from_extended(curve, four):
    """Return the point for which a tuple stands."""
    scale = inverse(four[2], curve.prime)
    return (four[0] * scale % curve.prime, four[1] * scale % curve.prime)


def add_extended(curve, first, second):
    """Return the tuple of the sum of two points."""
    x1, y1, z1, t1 = first
    x2, y2, z2, t2 = second
    p = curve.prime
    zz = z1 * z2
    dtt = curve.d * t1 * t2 % p
    e = (x1 * y2 + y1 * x2) % p
    f = (zz - dtt) % p
    g = (zz + dtt) % p
    h = (y1 * y2 - curve.a * x1 * x2) % p
    return (e * f % p, g * h % p, f * g % p, e * h % p)


def same_extended(curve, first, second):
    """Tell whether two tuples stand for one point."""
    x_differs = (first[0] * second[2] - second[0] * first[2]) % curve.prime
    y_differs = (first[1] * second[2] - second[1] * first[2]) % curve.prime
    return x_differs == 0 and y_differs == 0


def multiply_extended(curve, factor, point):
    """Return the multiple of a point by any integer, as a point."""
    start = to_extended(curve, curve.negate(point) if factor < 0 else point)
    result = NEUTRAL_FOUR
    for bit in bits_from_top(abs(factor)):
        result = add_extended(curve, result, result)
        if bit == 1:
            result = add_extended(curve, result, start)
    return from_extended(curve, result)
