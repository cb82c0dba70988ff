"""Groups made from the numbers of points 41 and 63."""

from curveseal.edwards import EdwardsCurve
from curveseal.groups import EdwardsGroup, Group
from curveseal.weierstrass import Curve
from reference import EDWARDS, WEIERSTRASS


def weierstrass_group(name):
    p, a, b, base, order = WEIERSTRASS[name]
    return Group(name, Curve(p, a, b), base, order, 1)


def edwards_group(name):
    p, a, d, base, order, cofactor = EDWARDS[name]
    return EdwardsGroup(name, EdwardsCurve(p, a, d), base, order, cofactor)


def group_of_order_two(prime):
    """Return an Edwards group over a prime of any size; its base is the point of order two."""
    d = next(number for number in range(2, prime) if pow(number, (prime - 1) // 2, prime) != 1)
    return EdwardsGroup("two", EdwardsCurve(prime, 1, d), (0, prime - 1), 2, 2)
