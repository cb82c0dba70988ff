"""Points 33, 39 and 40: curveseal.orders."""

import unittest

from curveseal.edwards import EdwardsCurve
from curveseal.errors import OutOfRange, Refused
from curveseal.groups import EdwardsGroup, Group
from curveseal.orders import allowed_orders, count_points, point_order
from curveseal.papers import factors, is_prime
from curveseal.weierstrass import Curve
from reference import (
    EDWARDS, SMALL_CURVES, SMALL_EDWARDS, WEIERSTRASS, curve_points, curve_sum, edwards_points, edwards_sum,
)


def prime_factors(n):
    return [prime for prime, _ in factors(n)]


def counted_order(total, neutral, point):
    """Return the order of a point by adding it up."""
    order, multiple = 1, point
    while multiple != neutral:
        order, multiple = order + 1, total(multiple, point)
    return order


class CountPointsTest(unittest.TestCase):
    def test_all_curves_over_small_primes(self):
        for p in (5, 7, 11, 13):
            for a in range(p):
                for b in range(p):
                    if (4 * a ** 3 + 27 * b ** 2) % p != 0:
                        self.assertEqual(count_points(Curve(p, a, b)), len(curve_points(p, a, b)))

    def test_other_small_curves(self):
        for p, a, b in SMALL_CURVES + ((43, 0, 7), (79, 0, 3), (79, -3, 5), (97, 2, 3), (101, 1, 0)):
            self.assertEqual(count_points(Curve(p, a, b)), len(curve_points(p, a, b)))

    def test_named_curves(self):
        for name in ("w11", "w23", "w43", "w79", "w251", "w1021", "w65521"):
            p, a, b, _, order = WEIERSTRASS[name]
            self.assertEqual(count_points(Curve(p, a, b)), order)

    def test_bound(self):
        self.assertEqual(count_points(Curve(65521, 0, 17)), 65353)
        for prime in (65537, 65539, 2 ** 31 - 1, 2 ** 256 - 2 ** 32 - 977):
            with self.assertRaises(OutOfRange):
                count_points(Curve(prime, 0, 7))

    def test_bound_of_the_number_of_points(self):
        for p, a, b in SMALL_CURVES:
            count = count_points(Curve(p, a, b))
            self.assertIn(count, allowed_orders(p, 1))


class PointOrderTest(unittest.TestCase):
    def check(self, group, points, total):
        neutral = group.neutral()
        for point in points:
            order = counted_order(total, neutral, point)
            for times in (1, 2, 12, 35):
                multiple = len(points) * times
                primes = prime_factors(multiple)
                for listed in (primes, primes[::-1], primes + primes):
                    kept = list(listed)
                    self.assertEqual(point_order(group, point, multiple, listed), order)
                    self.assertEqual(listed, kept)
            self.assertEqual(point_order(group, point, order, prime_factors(order)), order)
            for wrong in range(1, 3 * order):
                if wrong % order != 0:
                    with self.assertRaises(Refused):
                        point_order(group, point, wrong, prime_factors(wrong))

    def test_all_points_of_small_curves(self):
        for p, a, b in SMALL_CURVES:
            points = curve_points(p, a, b)
            if len(points) > 1:
                group = Group("small", Curve(p, a, b), points[1], len(points), 1)
                self.check(group, points, lambda first, second: curve_sum(p, a, first, second))

    def test_all_points_of_small_edwards_curves(self):
        for p, a, d in SMALL_EDWARDS:
            points = edwards_points(p, a, d)
            base = next(point for point in points if point != (0, 1))
            group = EdwardsGroup("small", EdwardsCurve(p, a, d), base, len(points), 1)
            self.check(group, points, lambda first, second: edwards_sum(p, a, d, first, second))

    def test_neutral_point(self):
        p, a, b, base, order = WEIERSTRASS["w11"]
        group = Group("w11", Curve(p, a, b), base, order, 1)
        self.assertEqual(point_order(group, None, 12, [2, 3]), 1)
        self.assertEqual(point_order(group, None, 1, []), 1)
        self.assertEqual(point_order(group, base, 17 * 360, [2, 3, 5, 17]), 17)
        with self.assertRaises(Refused):
            point_order(group, base, 1, [])

    def test_big_groups(self):
        p, a, d, base, order, cofactor = EDWARDS["ed25519"]
        group = EdwardsGroup("ed25519", EdwardsCurve(p, a, d), base, order, cofactor)
        low = group.lift(0, False)
        self.assertEqual(point_order(group, base, 8 * order, [2, order]), order)
        self.assertEqual(point_order(group, low, 8 * order, [2, order]), 4)
        self.assertEqual(point_order(group, group.add(base, low), 8 * order, [order, 2]), 4 * order)
        self.assertEqual(point_order(group, (0, p - 1), 8 * order, [2, order]), 2)
        with self.assertRaises(Refused):
            point_order(group, group.add(base, low), 2 * order, [2, order])


class AllowedOrdersTest(unittest.TestCase):
    def test_small_primes(self):
        for p in [n for n in range(5, 120) if is_prime(n)]:
            for n in range(1, 2 * p + 3):
                expected = [k for k in range(0, 3 * p, n) if (k - p - 1) ** 2 <= 4 * p]
                self.assertEqual(allowed_orders(p, n), expected)

    def test_ends_of_the_bound(self):
        for p in (11, 101, 65521, 2 ** 31 - 1, WEIERSTRASS["p256"][0], 2 ** 255 - 19):
            reach = 0
            bits = p.bit_length()
            for at in range(bits, -1, -1):
                if (reach + 2 ** at) ** 2 <= 4 * p:
                    reach += 2 ** at
            self.assertEqual(allowed_orders(p, p + 1 + reach), [p + 1 + reach])
            self.assertEqual(allowed_orders(p, p + 2 + reach), [])
            self.assertEqual(allowed_orders(p, p + 1 - reach)[0], p + 1 - reach)
            self.assertNotIn(p - reach, allowed_orders(p, p - reach))

    def test_named_groups(self):
        for name, (p, _, _, _, order) in WEIERSTRASS.items():
            self.assertEqual(allowed_orders(p, order), [order], name)
        for name, (p, _, _, _, order, cofactor) in EDWARDS.items():
            self.assertIn(cofactor * order, allowed_orders(p, order), name)

    def test_less_than_one(self):
        for n in (0, -1, -2, -17, -(10 ** 40)):
            for p in (11, 2 ** 256 - 2 ** 32 - 977):
                with self.assertRaises(OutOfRange):
                    allowed_orders(p, n)

    def test_more_than_1024_multiples(self):
        seen = set()
        for p in [n for n in range(588000, 592000) if is_prime(n)]:
            expected = [k for k in range(p - 1600, p + 1600) if k % 3 == 0 and (k - p - 1) ** 2 <= 4 * p]
            seen.add(len(expected))
            if len(expected) > 1024:
                with self.assertRaises(OutOfRange):
                    allowed_orders(p, 3)
            else:
                self.assertEqual(allowed_orders(p, 3), expected)
        self.assertTrue({1024, 1025}.issubset(seen))
        for n in (1, 2, 17, 2 ** 100):
            with self.assertRaises(OutOfRange):
                allowed_orders(2 ** 256 - 2 ** 32 - 977, n)

    def test_returned_lists_are_new(self):
        first = allowed_orders(11, 6)
        self.assertEqual(first, [6, 12, 18])
        first.append(1)
        self.assertEqual(allowed_orders(11, 6), [6, 12, 18])


if __name__ == "__main__":
    unittest.main()
