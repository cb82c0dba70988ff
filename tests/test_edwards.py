"""Points 4, 55 to 57 and 62: curveseal.edwards."""

import itertools
import unittest

from curveseal.edwards import EdwardsCurve
from curveseal.errors import OutOfRange, Refused
from reference import EDWARDS, SMALL_EDWARDS, edwards_multiple, edwards_points, edwards_sum
from values import ODD_VALUES

LONG_FACTORS = (2 ** 64, 2 ** 255 + 12345, 3 ** 200, -(3 ** 200), -1, -2, 1, 2, 3, 0)


class MakingTest(unittest.TestCase):
    def test_fields(self):
        curve = EdwardsCurve(13, 12, 6)
        self.assertEqual((curve.prime, curve.a, curve.d), (13, 12, 6))
        other = EdwardsCurve(13, -1 - 13 ** 80, 6 + 13 ** 80)
        self.assertEqual((other.prime, other.a, other.d), (13, 12, 6))
        self.assertEqual((curve.prime, curve.a, curve.d), (13, 12, 6))

    def test_numbers_below_three_and_even_numbers(self):
        for prime in (2, 1, 0, -1, -3, -13, 4, 8, 100, 2 ** 255, -(2 ** 90)):
            for a, d in ((1, 2), (0, 0), (2, 1), (-1, 6)):
                with self.assertRaises(OutOfRange):
                    EdwardsCurve(prime, a, d)

    def test_least_prime(self):
        self.assertEqual(EdwardsCurve(3, 1, 2).prime, 3)

    def test_every_a_and_d_of_small_primes(self):
        for prime in (3, 5, 7, 11, 13):
            squares = [x * x % prime for x in range(1, prime)]
            for a in range(-prime, 2 * prime):
                for d in range(-prime, 2 * prime):
                    if a % prime in squares and d % prime not in squares and d % prime != 0:
                        self.assertEqual(EdwardsCurve(prime, a, d).d, d % prime)
                    else:
                        with self.assertRaises(Refused):
                            EdwardsCurve(prime, a, d)

    def test_big_prime(self):
        prime, a, d, _, _, _ = EDWARDS["ed25519"]
        self.assertEqual(EdwardsCurve(prime, a, d).a, prime - 1)
        self.assertEqual(d * 121666 % prime, -121665 % prime)
        for wrong_a, wrong_d in ((2, d), (0, d), (prime, d), (-1, 4), (-1, 0), (-1, -prime), (2, 4)):
            with self.assertRaises(Refused):
                EdwardsCurve(prime, wrong_a, wrong_d)


class HasTest(unittest.TestCase):
    def test_all_pairs(self):
        for p, a, d in SMALL_EDWARDS:
            curve = EdwardsCurve(p, a, d)
            points = set(edwards_points(p, a, d))
            for pair in itertools.product(range(-p, 2 * p), repeat=2):
                self.assertIs(curve.has(pair), pair in points)
            self.assertEqual(len(points) % 4, 0)

    def test_points_with_x_zero(self):
        for p, a, d in SMALL_EDWARDS:
            curve = EdwardsCurve(p, a, d)
            self.assertEqual([y for y in range(p) if curve.has((0, y))], [1, p - 1])
            self.assertIs(curve.has((0, -1)), False)

    def test_values_of_every_kind(self):
        for p, a, d in SMALL_EDWARDS:
            curve = EdwardsCurve(p, a, d)
            points = edwards_points(p, a, d)
            for value in ODD_VALUES:
                fits = type(value) is tuple and value in points and all(type(item) is int for item in value)
                self.assertIs(curve.has(value), fits)
            self.assertIs(curve.has(None), False)

    def test_values_that_resemble_points(self):
        for p, a, d in SMALL_EDWARDS:
            curve = EdwardsCurve(p, a, d)
            for x, y in edwards_points(p, a, d):
                for value in ([x, y], (x, y, 1), (x,), (x, y, 0, 0), (float(x), y), (x, float(y)), {x: y}, ((x, y),)):
                    self.assertIs(curve.has(value), False)
                for value in ((x + p, y), (x, y + p), (x - p, y), (x, y - p), (str(x), y), (x, str(y)), (None, y)):
                    self.assertIs(curve.has(value), False)

    def test_bools(self):
        curve = EdwardsCurve(5, 1, 2)
        self.assertIs(curve.has((0, 1)), True)
        self.assertIs(curve.has((1, 0)), True)
        for value in ((False, True), (False, 1), (0, True), (True, 0), (1, False)):
            self.assertIs(curve.has(value), False)


class SumTest(unittest.TestCase):
    def test_all_sums(self):
        for p, a, d in SMALL_EDWARDS:
            curve = EdwardsCurve(p, a, d)
            for first, second in itertools.product(edwards_points(p, a, d), repeat=2):
                expected = edwards_sum(p, a, d, first, second)
                self.assertEqual(curve.add(first, second), expected)
                self.assertEqual(curve.add(second, first), expected)
                self.assertTrue(curve.has(curve.add(first, second)))

    def test_sums_associate(self):
        for p, a, d in SMALL_EDWARDS[:9]:
            curve = EdwardsCurve(p, a, d)
            for first, second, third in itertools.product(edwards_points(p, a, d), repeat=3):
                left = curve.add(curve.add(first, second), third)
                self.assertEqual(left, curve.add(first, curve.add(second, third)))

    def test_negative_neutral_and_double(self):
        for p, a, d in SMALL_EDWARDS:
            curve = EdwardsCurve(p, a, d)
            for point in edwards_points(p, a, d):
                negative = curve.negate(point)
                self.assertEqual(negative, ((p - point[0]) % p, point[1]))
                self.assertEqual(curve.add(point, negative), (0, 1))
                self.assertEqual(curve.add(point, (0, 1)), point)
                self.assertEqual(curve.add((0, 1), point), point)
                self.assertEqual(curve.double(point), edwards_sum(p, a, d, point, point))

    def test_points_of_order_two_and_four(self):
        for p, a, d in SMALL_EDWARDS:
            curve = EdwardsCurve(p, a, d)
            two = (0, p - 1)
            self.assertEqual(curve.double(two), (0, 1))
            self.assertEqual(curve.multiply(2, two), (0, 1))
            self.assertEqual(curve.multiply(-3, two), two)
            self.assertEqual(curve.negate(two), two)
            four = next(point for point in edwards_points(p, a, d) if point[1] == 0)
            self.assertEqual(curve.double(four), two)
            self.assertEqual(curve.multiply(3, four), curve.negate(four))
            self.assertEqual(curve.multiply(4, four), (0, 1))
            self.assertNotEqual(curve.negate(four), four)

    def test_kinds_of_values(self):
        curve = EdwardsCurve(13, 12, 6)
        base = (10, 9)
        for point in (curve.negate(base), curve.add(base, (0, 12)), curve.double(base), curve.multiply(3, base)):
            self.assertIs(type(point), tuple)
            self.assertEqual([type(item) for item in point], [int, int])


class MultiplyTest(unittest.TestCase):
    def test_example(self):
        self.assertEqual(EdwardsCurve(13, 12, 6).multiply(5, (10, 9)), (0, 1))

    def test_all_small_multiples(self):
        for p, a, d in SMALL_EDWARDS:
            curve = EdwardsCurve(p, a, d)
            for point in edwards_points(p, a, d):
                total = (0, 1)
                for factor in range(0, 2 * p + 9):
                    self.assertEqual(curve.multiply(factor, point), total)
                    self.assertEqual(curve.multiply(-factor, point), curve.negate(total))
                    total = edwards_sum(p, a, d, total, point)

    def test_long_factors(self):
        for p, a, d in SMALL_EDWARDS:
            curve = EdwardsCurve(p, a, d)
            for point, factor in itertools.product(edwards_points(p, a, d), LONG_FACTORS):
                self.assertEqual(curve.multiply(factor, point), edwards_multiple(p, a, d, factor, point))

    def test_orders_of_named_groups(self):
        for name, (p, a, d, base, order, _) in EDWARDS.items():
            with self.subTest(name=name):
                curve = EdwardsCurve(p, a, d)
                self.assertTrue(curve.has(base))
                self.assertEqual(curve.multiply(order, base), (0, 1))
                self.assertEqual(curve.multiply(order + 1, base), base)
                self.assertEqual(curve.multiply(order - 1, base), curve.negate(base))
                self.assertEqual(curve.multiply(-order - 2, base), curve.negate(curve.double(base)))


class LiftTest(unittest.TestCase):
    def test_example(self):
        self.assertIsNone(EdwardsCurve(13, 12, 6).lift(1, True))

    def test_small_curves(self):
        for p, a, d in SMALL_EDWARDS:
            curve = EdwardsCurve(p, a, d)
            points = edwards_points(p, a, d)
            for y in range(-p, 2 * p):
                for odd in (True, False):
                    found = [point for point in points if point[1] == y and (point[0] % 2 == 1) is odd]
                    self.assertLessEqual(len(found), 1)
                    self.assertEqual(curve.lift(y, odd), found[0] if found else None)

    def test_x_zero(self):
        for p, a, d in SMALL_EDWARDS + tuple(numbers[:3] for numbers in EDWARDS.values()):
            for y in (1, p - 1):
                self.assertEqual(EdwardsCurve(p, a, d).lift(y, False), (0, y))
                self.assertIsNone(EdwardsCurve(p, a, d).lift(y, True))

    def test_no_residue(self):
        for p, a, d in SMALL_EDWARDS:
            for y in (p, p + 1, -1, -p, 10 ** 90, -(10 ** 90)) + tuple(range(p, 3 * p)):
                self.assertIsNone(EdwardsCurve(p, a, d).lift(y, True))
                self.assertIsNone(EdwardsCurve(p, a, d).lift(y, False))

    def test_named_groups(self):
        for p, a, d, base, _, _ in EDWARDS.values():
            curve = EdwardsCurve(p, a, d)
            for factor in (1, 2, 3, 10 ** 9):
                for point in (curve.multiply(factor, base), curve.multiply(-factor, base)):
                    if point[0] != 0:
                        self.assertEqual(curve.lift(point[1], point[0] % 2 == 1), point)
                        self.assertEqual(curve.lift(point[1], point[0] % 2 == 0), curve.negate(point))
                        self.assertIsNone(curve.lift(point[1] + p, point[0] % 2 == 1))


if __name__ == "__main__":
    unittest.main()
