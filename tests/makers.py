"""Groups made from the numbers of points 41 and 63."""

from curveseal.edwards import EdwardsCurve
from curveseal.groups import EdwardsGroup, Group
from curveseal.weierstrass import Curve
from reference import EDWARDS, WEIERSTRASS


def weierstrass_group(name):
    p, a, b, base, order = WEIERSTRASS[name]
    return Group(name, Curve(p, a, b), base, order, 1)


def edwards_group(name):
    p, a, d, base, order, cofactor = EDWARDS[name]
    return EdwardsGroup(name, EdwardsCurve(p, a, d), base, order, cofactor)
