"""Points 4 and 30 to 33: curveseal.weierstrass."""

import itertools
import math
import unittest

from curveseal.errors import OutOfRange, Refused
from curveseal.weierstrass import Curve
from reference import SMALL_CURVES, WEIERSTRASS, curve_multiple, curve_points, curve_sum
from values import ODD_VALUES

LONG_FACTORS = (2 ** 64, 2 ** 255 + 12345, 3 ** 200, -(3 ** 200), -1, -2, 1, 2, 3, 0)


class MakingTest(unittest.TestCase):
    def test_fields(self):
        curve = Curve(11, 8, 1)
        self.assertEqual((curve.prime, curve.a, curve.b), (11, 8, 1))
        self.assertEqual((Curve(11, -3, 12).a, Curve(11, -3, 12).b), (8, 1))
        self.assertEqual((Curve(11, 8 + 11 ** 90, 1 - 11 ** 90).a, Curve(11, 8 + 11 ** 90, 1 - 11 ** 90).b), (8, 1))

    def test_numbers_below_five_and_even_numbers(self):
        for prime in (4, 3, 2, 1, 0, -1, -5, -7, -11, 6, 8, 10, 100, 2 ** 256, -(2 ** 90)):
            for a, b in ((1, 1), (0, 0), (3, 1), (-3, 2)):
                with self.assertRaises(OutOfRange):
                    Curve(prime, a, b)

    def test_least_prime(self):
        self.assertEqual(Curve(5, 1, 1).prime, 5)

    def test_every_a_and_b_of_small_primes(self):
        for prime in (5, 7, 11, 13):
            for a in range(-prime, 2 * prime):
                for b in range(-prime, 2 * prime):
                    # The cubic has a double root exactly if it is refused.
                    double = any(
                        (x ** 3 + a * x + b) % prime == 0 and (3 * x * x + a) % prime == 0 for x in range(prime)
                    )
                    if double:
                        with self.assertRaises(Refused):
                            Curve(prime, a, b)
                    else:
                        self.assertEqual(Curve(prime, a, b).b, b % prime)

    def test_refused_on_a_big_prime(self):
        prime = WEIERSTRASS["p256"][0]
        for a, b in ((0, 0), (-3, 2), (-3, -2), (-3 * 25, 2 * 125), (prime, -prime), (-12, 16)):
            with self.assertRaises(Refused):
                Curve(prime, a, b)

    def test_objects_are_independent(self):
        first, second = Curve(11, 8, 1), Curve(23, 1, 4)
        self.assertEqual((first.prime, first.a, first.b), (11, 8, 1))
        self.assertEqual((second.prime, second.a, second.b), (23, 1, 4))


class HasTest(unittest.TestCase):
    def test_all_pairs(self):
        for p, a, b in SMALL_CURVES:
            curve = Curve(p, a, b)
            points = set(curve_points(p, a, b))
            self.assertIs(curve.has(None), True)
            for pair in itertools.product(range(-p, 2 * p), repeat=2):
                self.assertIs(curve.has(pair), pair in points)

    def test_number_of_points(self):
        for p, a, b in SMALL_CURVES:
            curve = Curve(p, a, b)
            count = 1 + sum(curve.has(pair) for pair in itertools.product(range(p), repeat=2))
            self.assertLessEqual((count - p - 1) ** 2, 4 * p)

    def test_values_of_every_kind(self):
        for p, a, b in SMALL_CURVES:
            curve = Curve(p, a, b)
            points = curve_points(p, a, b)
            for value in ODD_VALUES:
                fits = value is None or (
                    type(value) is tuple and value in points and all(type(item) is int for item in value)
                )
                self.assertIs(curve.has(value), fits)

    def test_values_that_resemble_points(self):
        for p, a, b in SMALL_CURVES:
            curve = Curve(p, a, b)
            for x, y in curve_points(p, a, b)[1:]:
                for value in ([x, y], (x, y, 1), (x,), (x, y, 0, 0), (float(x), y), (x, float(y)), {x: y}, ((x, y),)):
                    self.assertIs(curve.has(value), False)
                for value in ((x + p, y), (x, y + p), (x - p, y), (x, y - p), (str(x), y), (x, str(y)), (x, None)):
                    self.assertIs(curve.has(value), False)

    def test_bools(self):
        curve = Curve(7, 1, 0)
        self.assertIs(curve.has((0, 0)), True)
        for value in ((False, False), (0, False), (False, 0), (True, False)):
            self.assertIs(curve.has(value), False)
        self.assertIs(Curve(5, 0, 0 + 1).has((0, 1)), True)
        self.assertIs(Curve(5, 0, 0 + 1).has((0, True)), False)
        self.assertIs(Curve(5, 0, 0 + 1).has((False, 1)), False)


class SumTest(unittest.TestCase):
    def test_all_sums(self):
        for p, a, b in SMALL_CURVES:
            curve = Curve(p, a, b)
            for first, second in itertools.product(curve_points(p, a, b), repeat=2):
                expected = curve_sum(p, a, first, second)
                self.assertEqual(curve.add(first, second), expected)
                self.assertEqual(curve.add(second, first), expected)
                self.assertTrue(curve.has(curve.add(first, second)))

    def test_sums_associate(self):
        for p, a, b in SMALL_CURVES[:8]:
            curve = Curve(p, a, b)
            for first, second, third in itertools.product(curve_points(p, a, b), repeat=3):
                left = curve.add(curve.add(first, second), third)
                self.assertEqual(left, curve.add(first, curve.add(second, third)))

    def test_known_sums(self):
        self.assertEqual(Curve(11, 8, 1).add((0, 10), (0, 10)), (5, 10))
        self.assertEqual(Curve(17, 2, 2).add((5, 1), (5, 1)), (6, 3))
        self.assertEqual(Curve(17, 2, 2).add((5, 1), (6, 3)), (10, 6))

    def test_negative_and_double(self):
        for p, a, b in SMALL_CURVES:
            curve = Curve(p, a, b)
            for point in curve_points(p, a, b):
                negative = curve.negate(point)
                if point is None:
                    self.assertIsNone(negative)
                else:
                    self.assertEqual(negative, (point[0], (p - point[1]) % p))
                self.assertIsNone(curve.add(point, negative))
                self.assertIsNone(curve.add(negative, point))
                self.assertEqual(curve.double(point), curve_sum(p, a, point, point))

    def test_point_with_y_zero(self):
        curve = Curve(7, 6, 0)
        for point in ((0, 0), (1, 0), (6, 0)):
            self.assertEqual(curve.negate(point), point)
            self.assertIsNone(curve.double(point))
            self.assertIsNone(curve.add(point, point))
            self.assertIsNone(curve.multiply(2, point))
            self.assertEqual(curve.multiply(-7, point), point)

    def test_kinds_of_values(self):
        curve = Curve(17, 2, 2)
        for point in (curve.negate((5, 1)), curve.add((5, 1), (6, 3)), curve.double((5, 1)), curve.multiply(9, (5, 1))):
            self.assertIs(type(point), tuple)
            self.assertEqual([type(item) for item in point], [int, int])


class MultiplyTest(unittest.TestCase):
    def test_all_small_multiples(self):
        for p, a, b in SMALL_CURVES:
            curve = Curve(p, a, b)
            for point in curve_points(p, a, b):
                total = None
                for factor in range(0, 3 * p):
                    self.assertEqual(curve.multiply(factor, point), total)
                    self.assertEqual(curve.multiply(-factor, point), curve.negate(total))
                    total = curve_sum(p, a, total, point)

    def test_long_factors(self):
        for p, a, b in SMALL_CURVES:
            curve = Curve(p, a, b)
            for point, factor in itertools.product(curve_points(p, a, b), LONG_FACTORS):
                self.assertEqual(curve.multiply(factor, point), curve_multiple(p, a, factor, point))

    def test_orders_of_named_groups(self):
        for name, (p, a, b, base, order) in WEIERSTRASS.items():
            with self.subTest(name=name):
                curve = Curve(p, a, b)
                self.assertTrue(curve.has(base))
                self.assertIsNone(curve.multiply(order, base))
                self.assertEqual(curve.multiply(order + 1, base), base)
                self.assertEqual(curve.multiply(order - 1, base), curve.negate(base))
                self.assertEqual(curve.multiply(-order - 2, base), curve.negate(curve.double(base)))

    def test_known_multiples(self):
        p, a, b, base, _ = WEIERSTRASS["secp256k1"]
        expected = (
            0xc6047f9441ed7d6d3045406e95c07cd85c778e4b8cef3ca7abac09b95c709ee5,
            0x1ae168fea63dc339a3c58419466ceaeef7f632653266d0e1236431a950cfe52a,
        )
        self.assertEqual(Curve(p, a, b).multiply(2, base), expected)
        p, a, b, base, _ = WEIERSTRASS["p256"]
        expected = (
            0x5ecbe4d1a6330a44c8f7ef951d4bf165e6c6b721efada985fb41661bc6e7fd6c,
            0x8734640c4998ff7e374b06ce1a64a2ecd82ab036384fb83d9a79b127a27d5032,
        )
        self.assertEqual(Curve(p, a, b).multiply(3, base), expected)


class LiftTest(unittest.TestCase):
    def test_small_curves(self):
        for p, a, b in SMALL_CURVES:
            curve = Curve(p, a, b)
            points = curve_points(p, a, b)[1:]
            for x in range(-p, 2 * p):
                for odd in (True, False):
                    found = [point for point in points if point[0] == x and (point[1] % 2 == 1) is odd]
                    self.assertLessEqual(len(found), 1)
                    self.assertEqual(curve.lift(x, odd), found[0] if found else None)

    def test_y_zero(self):
        curve = Curve(7, 6, 0)
        for x in (0, 1, 6):
            self.assertEqual(curve.lift(x, False), (x, 0))
            self.assertIsNone(curve.lift(x, True))

    def test_no_residue(self):
        for p, a, b in SMALL_CURVES:
            for x in (p, p + 1, -1, -p, 10 ** 90, -(10 ** 90)) + tuple(range(p, 3 * p)):
                self.assertIsNone(Curve(p, a, b).lift(x, True))
                self.assertIsNone(Curve(p, a, b).lift(x, False))

    def test_named_groups(self):
        for p, a, b, base, _ in WEIERSTRASS.values():
            curve = Curve(p, a, b)
            for factor in (1, 2, 3, 5, 10 ** 9):
                for point in (curve.multiply(factor, base), curve.multiply(-factor, base)):
                    self.assertEqual(curve.lift(point[0], point[1] % 2 == 1), point)
                    self.assertEqual(curve.lift(point[0], point[1] % 2 == 0), curve.negate(point))
                    self.assertIsNone(curve.lift(point[0] + p, point[1] % 2 == 1))
            missing = next(x for x in range(99) if pow(x ** 3 + a * x + b, (p - 1) // 2, p) == p - 1)
            self.assertIsNone(curve.lift(missing, True))
            self.assertIsNone(curve.lift(missing, False))

    def test_prime_whose_predecessor_has_many_twos(self):
        # This is the curve P-224.
        p, a = 2 ** 224 - 2 ** 96 + 1, -3
        b = 0xb4050a850c04b3abf54132565044b0b7d7bfd8ba270b39432355ffb4
        base = (
            0xb70e0cbd6bb4bf7f321390b94a03c1d356c21122343280d6115c1d21,
            0xbd376388b5f723fb4c22dfe6cd4375a05a07476444d5819985007e34,
        )
        curve = Curve(p, a, b)
        for factor in (1, 2, 3, -5, math.factorial(30)):
            point = curve.multiply(factor, base)
            self.assertEqual(curve.lift(point[0], point[1] % 2 == 1), point)
            self.assertEqual(curve.lift(point[0], point[1] % 2 == 0), curve.negate(point))


if __name__ == "__main__":
    unittest.main()
