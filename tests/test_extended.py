"""Point 58: curveseal.extended."""

import itertools
import unittest

from curveseal.edwards import EdwardsCurve
from curveseal.extended import add_extended, from_extended, multiply_extended, same_extended, to_extended
from reference import EDWARDS, SMALL_EDWARDS, edwards_multiple, edwards_points, edwards_sum

TINY = [numbers for numbers in SMALL_EDWARDS if numbers[0] <= 7]


def tuples(p, point):
    """Return all tuples of residues that stand for a point."""
    x, y = point
    return [(x * z % p, y * z % p, z, x * y * z % p) for z in range(1, p)]


def some_tuples(p, point):
    """Return a few of the tuples that stand for a point."""
    return tuples(p, point)[::max(1, p // 4)]


def added(p, a, d, first, second):
    """The formulas of point 58 word by word."""
    (x1, y1, z1, t1), (x2, y2, z2, t2) = first, second
    e = x1 * y2 + y1 * x2
    f = z1 * z2 - d * t1 * t2
    g = z1 * z2 + d * t1 * t2
    h = y1 * y2 - a * x1 * x2
    return (e * f % p, g * h % p, f * g % p, e * h % p)


class CoordinatesTest(unittest.TestCase):
    def test_to_extended(self):
        curve = EdwardsCurve(13, 12, 6)
        self.assertEqual(to_extended(curve, (0, 1)), (0, 1, 1, 0))
        self.assertEqual(to_extended(curve, (0, 12)), (0, 12, 1, 0))
        self.assertEqual(to_extended(curve, (10, 9)), (10, 9, 1, 12))

    def test_from_extended(self):
        for p, a, d in SMALL_EDWARDS:
            curve = EdwardsCurve(p, a, d)
            for point in edwards_points(p, a, d):
                for four in tuples(p, point):
                    self.assertEqual(from_extended(curve, four), point)

    def test_same_extended(self):
        for p, a, d in TINY:
            curve = EdwardsCurve(p, a, d)
            every = [(point, four) for point in edwards_points(p, a, d) for four in tuples(p, point)]
            for (one, first), (other, second) in itertools.product(every, repeat=2):
                self.assertIs(same_extended(curve, first, second), one == other)

    def test_same_extended_of_points_with_one_equal_coordinate(self):
        p, a, d = 29, 28, 2
        curve = EdwardsCurve(p, a, d)
        points = edwards_points(p, a, d)
        for one, other in itertools.product(points, repeat=2):
            if one[0] == other[0] or one[1] == other[1]:
                for first, second in itertools.product(some_tuples(p, one), some_tuples(p, other)):
                    self.assertIs(same_extended(curve, first, second), one == other)


class FormulasTest(unittest.TestCase):
    def test_adding(self):
        for p, a, d in SMALL_EDWARDS:
            curve = EdwardsCurve(p, a, d)
            for one, other in itertools.product(edwards_points(p, a, d), repeat=2):
                for first, second in itertools.product(some_tuples(p, one), some_tuples(p, other)):
                    found = add_extended(curve, first, second)
                    self.assertEqual(found, added(p, a % p, d % p, first, second))
                    self.assertEqual(from_extended(curve, found), edwards_sum(p, a, d, one, other))

    def test_residues_of_a_big_curve(self):
        for name in ("ed25519", "e31"):
            p, a, d, base, _, _ = EDWARDS[name]
            curve = EdwardsCurve(p, a, d)
            first = to_extended(curve, base)
            second = tuple([7 * residue % p for residue in first])
            for _ in range(12):
                found = add_extended(curve, first, second)
                self.assertEqual(found, added(p, a, d, first, second))
                self.assertEqual(add_extended(curve, second, second), added(p, a, d, second, second))
                self.assertTrue(all(0 <= residue < p for residue in found))
                self.assertEqual((found[0] * found[1] - found[2] * found[3]) % p, 0)
                second = add_extended(curve, second, found)


class MultiplyTest(unittest.TestCase):
    def test_small_curves(self):
        for p, a, d in SMALL_EDWARDS:
            curve = EdwardsCurve(p, a, d)
            for point in edwards_points(p, a, d):
                for factor in list(range(-30, 50)) + [2 ** 64 + 1, -(3 ** 99), 10 ** 90]:
                    expected = edwards_multiple(p, a, d, factor, point)
                    self.assertEqual(multiply_extended(curve, factor, point), expected)

    def test_named_groups(self):
        for p, a, d, base, order, _ in EDWARDS.values():
            curve = EdwardsCurve(p, a, d)
            for factor in (0, 1, -1, 2, 3, -3, order - 1, order, order + 1, -order - 2, 3 ** 500, -(5 ** 300)):
                expected = edwards_multiple(p, a, d, factor, base)
                self.assertEqual(multiply_extended(curve, factor, base), expected)
                self.assertEqual(multiply_extended(curve, factor, (0, 1)), (0, 1))


if __name__ == "__main__":
    unittest.main()
