"""Points 57 and 59: curveseal.shapes."""

import itertools
import unittest

from curveseal.edwards import EdwardsCurve
from curveseal.errors import NotAPoint, OutOfRange
from curveseal.named import group_named
from curveseal.shapes import (
    from_montgomery, from_weierstrass, montgomery_numbers, to_montgomery, to_weierstrass, weierstrass_of,
)
from curveseal.weierstrass import Curve
from reference import EDWARDS, SMALL_EDWARDS, curve_points, curve_sum, edwards_points, edwards_sum
from values import ODD_VALUES

# The short Weierstrass curve is not defined for the prime 3.
LARGER_EDWARDS = [numbers for numbers in SMALL_EDWARDS if numbers[0] > 3]


def numbers_of_point_59(p, a, d):
    scale = pow(a - d, -1, p)
    return 2 * (a + d) * scale % p, 4 * scale % p


def image_of_point_59(p, point):
    """Return the pair (u, v) of a point."""
    x, y = point
    if point == (0, 1):
        return None
    if point == (0, p - 1):
        return (0, 0)
    u = (1 + y) * pow(1 - y, -1, p) % p
    return (u, u * pow(x, -1, p) % p)


def montgomery_points(p, a, b):
    pairs = itertools.product(range(p), repeat=2)
    return [None] + [(u, v) for u, v in pairs if (b * v * v - u ** 3 - a * u * u - u) % p == 0]


def montgomery_sum(p, a, b, first, second):
    """Return the sum by chords and tangents of B v^2 = u^3 + A u^2 + u."""
    if first is None or second is None:
        return second if first is None else first
    (u1, v1), (u2, v2) = first, second
    if u1 == u2 and (v1 + v2) % p == 0:
        return None
    if u1 == u2:
        slope = (3 * u1 * u1 + 2 * a * u1 + 1) * pow(2 * b * v1, -1, p)
    else:
        slope = (v2 - v1) * pow(u2 - u1, -1, p)
    u3 = (b * slope * slope - a - u1 - u2) % p
    return (u3, (slope * (u1 - u3) - v1) % p)


class MontgomeryTest(unittest.TestCase):
    def test_numbers(self):
        for p, a, d in SMALL_EDWARDS + tuple(numbers[:3] for numbers in EDWARDS.values()):
            found = montgomery_numbers(EdwardsCurve(p, a, d))
            self.assertEqual(found, numbers_of_point_59(p, a, d))
            self.assertIs(type(found), tuple)

    def test_ed25519(self):
        group = group_named("ed25519")
        self.assertEqual(montgomery_numbers(group.curve), (486662, group.prime - 486664))
        self.assertEqual(to_montgomery(group.curve, group.base)[0], 9)

    def test_points_with_x_zero(self):
        for p, a, d in SMALL_EDWARDS + tuple(numbers[:3] for numbers in EDWARDS.values()):
            curve = EdwardsCurve(p, a, d)
            self.assertIsNone(to_montgomery(curve, (0, 1)))
            self.assertEqual(to_montgomery(curve, (0, p - 1)), (0, 0))
            self.assertEqual(from_montgomery(curve, None), (0, 1))
            self.assertEqual(from_montgomery(curve, (0, 0)), (0, p - 1))

    def test_all_points_there_and_back(self):
        for p, a, d in SMALL_EDWARDS:
            curve = EdwardsCurve(p, a, d)
            points = edwards_points(p, a, d)
            images = [to_montgomery(curve, point) for point in points]
            self.assertEqual(images, [image_of_point_59(p, point) for point in points])
            self.assertEqual(set(images), set(montgomery_points(p, *numbers_of_point_59(p, a, d))))
            self.assertEqual(len(set(images)), len(points))
            self.assertEqual([from_montgomery(curve, pair) for pair in images], points)

    def test_points_of_order_four(self):
        for p, a, d in SMALL_EDWARDS:
            curve = EdwardsCurve(p, a, d)
            for point in edwards_points(p, a, d):
                if point[1] == 0:
                    self.assertEqual(to_montgomery(curve, point), (1, pow(point[0], -1, p)))
                    self.assertEqual(from_montgomery(curve, (1, pow(point[0], -1, p))), point)

    def test_what_is_no_point(self):
        for p, a, d in SMALL_EDWARDS:
            curve = EdwardsCurve(p, a, d)
            points = montgomery_points(p, *numbers_of_point_59(p, a, d))
            for pair in itertools.product(range(-p, 2 * p), repeat=2):
                if pair in points:
                    self.assertTrue(curve.has(from_montgomery(curve, pair)))
                else:
                    with self.assertRaises(NotAPoint):
                        from_montgomery(curve, pair)

    def test_values_of_every_kind(self):
        curve = EdwardsCurve(13, 12, 6)
        points = montgomery_points(13, *montgomery_numbers(curve))
        for value in ODD_VALUES:
            fits = value is None or (type(value) is tuple and value in points)
            if not fits:
                with self.assertRaises(NotAPoint):
                    from_montgomery(curve, value)

    def test_sums(self):
        for p, a, d in SMALL_EDWARDS:
            curve = EdwardsCurve(p, a, d)
            numbers = montgomery_numbers(curve)
            for first, second in itertools.product(edwards_points(p, a, d), repeat=2):
                image = to_montgomery(curve, edwards_sum(p, a, d, first, second))
                images = to_montgomery(curve, first), to_montgomery(curve, second)
                self.assertEqual(image, montgomery_sum(p, *numbers, *images))

    def test_named_groups(self):
        for name in EDWARDS:
            group = group_named(name)
            p = group.prime
            a, b = montgomery_numbers(group.curve)
            for factor in (1, 2, 3, group.order - 1, group.order // 2, 12345):
                for small in ((0, 1), (0, p - 1)):
                    point = group.add(small, group.multiply(factor, group.base))
                    if point[0] != 0:
                        u, v = to_montgomery(group.curve, point)
                        self.assertEqual((u, v), image_of_point_59(p, point))
                        self.assertEqual((b * v * v - u ** 3 - a * u * u - u) % p, 0)
                        self.assertEqual(from_montgomery(group.curve, (u, v)), point)
                        for pair in ((u, v + p), (u + p, v), (u - p, v), (u, -v), (u, (v + 1) % p)):
                            with self.assertRaises(NotAPoint):
                                from_montgomery(group.curve, pair)


class WeierstrassTest(unittest.TestCase):
    def test_curve(self):
        for p, a, d in LARGER_EDWARDS + [numbers[:3] for numbers in EDWARDS.values()]:
            made = weierstrass_of(EdwardsCurve(p, a, d))
            big_a, big_b = numbers_of_point_59(p, a, d)
            self.assertIs(type(made), Curve)
            self.assertEqual(made.prime, p)
            self.assertEqual(made.a, (3 - big_a ** 2) * pow(3 * big_b ** 2, -1, p) % p)
            self.assertEqual(made.b, (2 * big_a ** 3 - 9 * big_a) * pow(27 * big_b ** 3, -1, p) % p)

    def test_prime_three(self):
        for a, d in ((1, 2), (1, -1), (4, 5)):
            curve = EdwardsCurve(3, a, d)
            with self.assertRaises(OutOfRange):
                weierstrass_of(curve)
            for point in edwards_points(3, a, d):
                for function in (to_weierstrass, from_weierstrass):
                    with self.assertRaises(OutOfRange):
                        function(curve, point)
            self.assertEqual(montgomery_numbers(curve), numbers_of_point_59(3, a, d))
            for point in edwards_points(3, a, d):
                self.assertEqual(from_montgomery(curve, to_montgomery(curve, point)), point)
        self.assertEqual(weierstrass_of(EdwardsCurve(5, 1, 2)).prime, 5)

    def test_all_points_there_and_back(self):
        for p, a, d in LARGER_EDWARDS:
            curve = EdwardsCurve(p, a, d)
            made = weierstrass_of(curve)
            points = edwards_points(p, a, d)
            images = [to_weierstrass(curve, point) for point in points]
            self.assertEqual(set(images), set(curve_points(p, made.a, made.b)))
            self.assertEqual(len(set(images)), len(points))
            self.assertEqual([from_weierstrass(curve, image) for image in images], points)

    def test_formula(self):
        for p, a, d in LARGER_EDWARDS:
            curve = EdwardsCurve(p, a, d)
            big_a, big_b = numbers_of_point_59(p, a, d)
            for point in edwards_points(p, a, d):
                image = to_weierstrass(curve, point)
                if point == (0, 1):
                    self.assertIsNone(image)
                else:
                    u, v = image_of_point_59(p, point)
                    scale = pow(big_b, -1, p)
                    self.assertEqual(image, ((u + big_a * pow(3, -1, p)) * scale % p, v * scale % p))

    def test_sums(self):
        for p, a, d in LARGER_EDWARDS:
            curve = EdwardsCurve(p, a, d)
            made = weierstrass_of(curve)
            for first, second in itertools.product(edwards_points(p, a, d), repeat=2):
                image = to_weierstrass(curve, edwards_sum(p, a, d, first, second))
                images = to_weierstrass(curve, first), to_weierstrass(curve, second)
                self.assertEqual(image, curve_sum(p, made.a, *images))

    def test_points_of_order_two_and_four(self):
        for p, a, d in LARGER_EDWARDS:
            curve = EdwardsCurve(p, a, d)
            made = weierstrass_of(curve)
            two = to_weierstrass(curve, (0, p - 1))
            self.assertEqual(two[1], 0)
            self.assertEqual(from_weierstrass(curve, two), (0, p - 1))
            for point in edwards_points(p, a, d):
                if point[1] == 0:
                    self.assertEqual(made.double(to_weierstrass(curve, point)), two)

    def test_what_is_no_point(self):
        for p, a, d in LARGER_EDWARDS:
            curve = EdwardsCurve(p, a, d)
            made = weierstrass_of(curve)
            points = curve_points(p, made.a, made.b)
            self.assertEqual(from_weierstrass(curve, None), (0, 1))
            for pair in itertools.product(range(-p, 2 * p), repeat=2):
                if pair in points:
                    self.assertTrue(curve.has(from_weierstrass(curve, pair)))
                else:
                    with self.assertRaises(NotAPoint):
                        from_weierstrass(curve, pair)

    def test_values_of_every_kind(self):
        curve = EdwardsCurve(13, 12, 6)
        for value in ODD_VALUES:
            if not weierstrass_of(curve).has(value):
                with self.assertRaises(NotAPoint):
                    from_weierstrass(curve, value)

    def test_named_groups(self):
        for name in EDWARDS:
            group = group_named(name)
            made = weierstrass_of(group.curve)
            image = to_weierstrass(group.curve, group.base)
            self.assertIsNone(made.multiply(group.order, image))
            for factor in (2, 3, group.order - 1, group.order // 2, 12345):
                point = group.multiply(factor, group.base)
                self.assertEqual(to_weierstrass(group.curve, point), made.multiply(factor, image))
                self.assertEqual(from_weierstrass(group.curve, made.multiply(factor, image)), point)
            for pair in ((image[0], image[1] + made.prime), (image[0] - made.prime, image[1])):
                with self.assertRaises(NotAPoint):
                    from_weierstrass(group.curve, pair)


if __name__ == "__main__":
    unittest.main()
