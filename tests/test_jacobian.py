"""Points 34 to 36: curveseal.jacobian."""

import itertools
import unittest

from curveseal.jacobian import add_jacobian, double_jacobian, from_jacobian, multiply_jacobian, same_point, to_jacobian
from curveseal.weierstrass import Curve
from reference import SMALL_CURVES, WEIERSTRASS, curve_multiple, curve_points, curve_sum

TINY = [numbers for numbers in SMALL_CURVES if numbers[0] <= 7]


def triples(p, point):
    """Return all triples of residues that stand for a point."""
    if point is None:
        return [(x, y, 0) for x in range(p) for y in range(p)]
    return [(point[0] * z * z % p, point[1] * z ** 3 % p, z) for z in range(1, p)]


def some_triples(p, point):
    """Return a few of the triples that stand for a point."""
    if point is None:
        return [(1, 1, 0), (0, 0, 0), (p - 1, 2, 0), (3, 0, 0)]
    return triples(p, point)[::max(1, p // 4)]


def doubled(p, a, triple):
    """Point 35 word by word."""
    x, y, z = triple
    if y == 0 or z == 0:
        return (1, 1, 0)
    s = 4 * x * y ** 2
    m = 3 * x ** 2 + a * z ** 4
    x3 = m ** 2 - 2 * s
    return (x3 % p, (m * (s - x3) - 8 * y ** 4) % p, 2 * y * z % p)


def added(p, a, first, second):
    """Point 36 word by word."""
    (x1, y1, z1), (x2, y2, z2) = first, second
    if z1 == 0:
        return second
    if z2 == 0:
        return first
    u1, u2 = x1 * z2 ** 2 % p, x2 * z1 ** 2 % p
    s1, s2 = y1 * z2 ** 3 % p, y2 * z1 ** 3 % p
    if u1 == u2:
        return doubled(p, a, first) if s1 == s2 else (1, 1, 0)
    h, r = u2 - u1, s2 - s1
    x3 = r ** 2 - h ** 3 - 2 * u1 * h ** 2
    return (x3 % p, (r * (u1 * h ** 2 - x3) - s1 * h ** 3) % p, h * z1 * z2 % p)


class CoordinatesTest(unittest.TestCase):
    def test_to_jacobian(self):
        self.assertEqual(to_jacobian(None), (1, 1, 0))
        self.assertEqual(to_jacobian((3, 4)), (3, 4, 1))
        self.assertEqual(to_jacobian((0, 0)), (0, 0, 1))

    def test_from_jacobian(self):
        for p, a, b in SMALL_CURVES:
            curve = Curve(p, a, b)
            for point in curve_points(p, a, b):
                for triple in triples(p, point):
                    self.assertEqual(from_jacobian(curve, triple), point)

    def test_same_point(self):
        for p, a, b in TINY:
            curve = Curve(p, a, b)
            every = [(point, triple) for point in curve_points(p, a, b) for triple in triples(p, point)]
            for (one, first), (other, second) in itertools.product(every, repeat=2):
                self.assertIs(same_point(curve, first, second), one == other)

    def test_same_point_of_points_with_one_equal_coordinate(self):
        curve = Curve(43, 0, 7)
        points = curve_points(43, 0, 7)
        pairs = [(one, other) for one, other in itertools.product(points[1:], repeat=2) if one != other]
        alike = [(one, other) for one, other in pairs if one[0] == other[0] or one[1] == other[1]]
        self.assertTrue(any(one[0] == other[0] for one, other in alike))
        self.assertTrue(any(one[1] == other[1] for one, other in alike))
        for one, other in alike:
            for first, second in itertools.product(some_triples(43, one), some_triples(43, other)):
                self.assertIs(same_point(curve, first, second), False)
        for one in points:
            for first, second in itertools.product(some_triples(43, one), repeat=2):
                self.assertIs(same_point(curve, first, second), True)


class FormulasTest(unittest.TestCase):
    def test_doubling(self):
        for p, a, b in SMALL_CURVES:
            curve = Curve(p, a, b)
            for point in curve_points(p, a, b):
                for triple in triples(p, point):
                    found = double_jacobian(curve, triple)
                    self.assertEqual(found, doubled(p, a % p, triple))
                    self.assertEqual(from_jacobian(curve, found), curve_sum(p, a, point, point))

    def test_doubling_infinity_and_points_with_y_zero(self):
        curve = Curve(7, 6, 0)
        for triple in triples(7, None) + triples(7, (0, 0)) + triples(7, (1, 0)) + triples(7, (6, 0)):
            self.assertEqual(double_jacobian(curve, triple), (1, 1, 0))

    def test_adding(self):
        for p, a, b in SMALL_CURVES:
            curve = Curve(p, a, b)
            for one, other in itertools.product(curve_points(p, a, b), repeat=2):
                for first, second in itertools.product(some_triples(p, one), some_triples(p, other)):
                    found = add_jacobian(curve, first, second)
                    self.assertEqual(found, added(p, a % p, first, second))
                    self.assertEqual(from_jacobian(curve, found), curve_sum(p, a, one, other))

    def test_adding_infinity_gives_the_very_other_triple(self):
        curve = Curve(11, 8, 1)
        for first in triples(11, None)[::7]:
            for second in triples(11, None)[::5] + triples(11, (0, 10)):
                self.assertEqual(add_jacobian(curve, first, second), second)
        for first in triples(11, (0, 10)):
            for second in triples(11, None):
                self.assertEqual(add_jacobian(curve, first, second), first)

    def test_adding_equal_and_opposite_points_in_all_triples(self):
        p, a, b = 11, 8, 1
        curve = Curve(p, a, b)
        for point in curve_points(p, a, b)[1:]:
            for first, second in itertools.product(triples(p, point), repeat=2):
                self.assertEqual(add_jacobian(curve, first, second), doubled(p, a, first))
            opposite = curve.negate(point)
            for first, second in itertools.product(triples(p, point), triples(p, opposite)):
                self.assertEqual(add_jacobian(curve, first, second), (1, 1, 0))

    def test_residues_of_a_big_curve(self):
        for name in ("p256", "secp256k1", "w31"):
            p, a, b, base, _ = WEIERSTRASS[name]
            curve = Curve(p, a, b)
            first = (base[0], base[1], 1)
            second = tuple([base[0] * 9 % p, base[1] * 27 % p, 3])
            for _ in range(12):
                self.assertEqual(double_jacobian(curve, second), doubled(p, a % p, second))
                self.assertEqual(add_jacobian(curve, first, second), added(p, a % p, first, second))
                self.assertEqual(add_jacobian(curve, second, first), added(p, a % p, second, first))
                second = add_jacobian(curve, double_jacobian(curve, second), first)
                self.assertTrue(all(0 <= residue < p for residue in second))


class MultiplyTest(unittest.TestCase):
    def test_small_curves(self):
        for p, a, b in SMALL_CURVES:
            curve = Curve(p, a, b)
            for point in curve_points(p, a, b):
                for factor in list(range(-30, 60)) + [2 ** 64 + 1, -(3 ** 99), 10 ** 90]:
                    self.assertEqual(multiply_jacobian(curve, factor, point), curve_multiple(p, a, factor, point))

    def test_named_groups(self):
        for p, a, b, base, order in WEIERSTRASS.values():
            curve = Curve(p, a, b)
            for factor in (0, 1, -1, 2, 3, -3, order - 1, order, order + 1, -order - 2, 3 ** 500, -(5 ** 300)):
                expected = curve_multiple(p, a, factor, base)
                self.assertEqual(multiply_jacobian(curve, factor, base), expected)
                self.assertIsNone(multiply_jacobian(curve, factor, None))


if __name__ == "__main__":
    unittest.main()
