"""Points 37 and 38: curveseal.ways."""

import random
import unittest

from curveseal.errors import OutOfRange
from curveseal.ways import (
    multiply_ladder, multiply_signed, multiply_windows, signed_digits, sum_of_multiples, window_digits,
)
from makers import edwards_group, weierstrass_group
from reference import EDWARDS, WEIERSTRASS, curve_multiple, curve_points, edwards_multiple, edwards_points

FACTORS = tuple(range(-70, 71)) + (127, 128, 129, 255, 256, 257, -255, -256, -4095, 65535, 65536, 10 ** 9)
LONG_FACTORS = (2 ** 255 - 1, 2 ** 256, -(2 ** 256) + 1, 3 ** 190, -(7 ** 120), 2 ** 600 + 2 ** 300 + 1, 5 ** 250)
SOME_NUMBERS = tuple(range(3000)) + (2 ** 64 - 1, 2 ** 64, 2 ** 64 + 1, 3 ** 200, 10 ** 120, 2 ** 600 - 1)


class Integers:
    """The residues of a modulus with their sums: a group with only the three methods."""

    def __init__(self, modulus):
        self.modulus = modulus

    def neutral(self):
        return 0

    def add(self, first, second):
        return (first + second) % self.modulus

    def negate(self, point):
        return -point % self.modulus


def ways():
    """Return the pairs of a name and a function of group, factor and point."""
    found = [("ladder", multiply_ladder), ("windows", multiply_windows), ("signed", multiply_signed)]
    for width in range(1, 9):
        found.append((f"windows {width}", lambda g, k, q, width=width: multiply_windows(g, k, q, width=width)))
    for width in range(2, 9):
        found.append((f"signed {width}", lambda g, k, q, width=width: multiply_signed(g, k, q, width=width)))
    found.append(("sum", lambda g, k, q: sum_of_multiples(g, [(k, q)])))
    return found


class WindowDigitsTest(unittest.TestCase):
    def test_values(self):
        self.assertEqual(window_digits(0, 1), [])
        self.assertEqual(window_digits(6, 1), [0, 1, 1])
        self.assertEqual(window_digits(255, 4), [15, 15])
        self.assertEqual(window_digits(256, 4), [0, 0, 1])
        self.assertEqual(window_digits(255, 8), [255])
        self.assertEqual(window_digits(256, 8), [0, 1])
        self.assertEqual(window_digits(100, 3), [4, 4, 1])

    def test_digits(self):
        for width in range(1, 9):
            for number in SOME_NUMBERS:
                digits = window_digits(number, width)
                self.assertEqual(sum(digit * 2 ** (width * at) for at, digit in enumerate(digits)), number)
                self.assertTrue(all(0 <= digit < 2 ** width for digit in digits))
                self.assertTrue(number == 0 and digits == [] or digits[-1] != 0)

    def test_errors(self):
        for number in (-1, -2, -(10 ** 50)):
            for width in (1, 8, 0, 9):
                with self.assertRaises(OutOfRange):
                    window_digits(number, width)
        for width in (0, -1, 9, 10, 100):
            for number in (0, 1, 7, -1):
                with self.assertRaises(OutOfRange):
                    window_digits(number, width)


class SignedDigitsTest(unittest.TestCase):
    def test_example(self):
        self.assertEqual(signed_digits(15, 2), [-1, 0, 0, 0, 1])

    def test_values(self):
        self.assertEqual(signed_digits(0, 2), [])
        self.assertEqual(signed_digits(1, 2), [1])
        self.assertEqual(signed_digits(3, 2), [-1, 0, 1])
        self.assertEqual(signed_digits(3, 3), [3])
        self.assertEqual(signed_digits(5, 3), [-3, 0, 0, 1])
        self.assertEqual(signed_digits(127, 8), [127])
        self.assertEqual(signed_digits(129, 8), [-127, 0, 0, 0, 0, 0, 0, 0, 1])
        self.assertEqual(signed_digits(12, 4), [0, 0, 3])

    def test_digits(self):
        for width in range(2, 9):
            for number in SOME_NUMBERS:
                digits = signed_digits(number, width)
                self.assertEqual(sum(digit * 2 ** at for at, digit in enumerate(digits)), number)
                self.assertTrue(all(digit == 0 or digit % 2 == 1 for digit in digits))
                self.assertTrue(all(abs(digit) < 2 ** (width - 1) for digit in digits))
                self.assertTrue(number == 0 and digits == [] or digits[-1] != 0)
                for at in range(len(digits)):
                    self.assertLessEqual(sum(digit != 0 for digit in digits[at:at + width]), 1)

    def test_errors(self):
        for number in (-1, -2, -(10 ** 50)):
            for width in (2, 8, 1, 9):
                with self.assertRaises(OutOfRange):
                    signed_digits(number, width)
        for width in (1, 0, -1, 9, 10, 100):
            for number in (0, 1, 7, -1):
                with self.assertRaises(OutOfRange):
                    signed_digits(number, width)

    def test_returned_lists_are_new(self):
        for make in (lambda: signed_digits(15, 2), lambda: window_digits(15, 2)):
            first = make()
            kept = list(first)
            first.append(5)
            self.assertEqual(make(), kept)


class WaysTest(unittest.TestCase):
    def test_group_with_only_three_methods(self):
        for modulus in (2, 7, 30, 10 ** 60):
            group = Integers(modulus)
            for name, multiply in ways():
                for point in (0, 1, 5 % modulus, modulus - 1):
                    for factor in FACTORS + LONG_FACTORS:
                        self.assertEqual(multiply(group, factor, point), factor * point % modulus, (name, factor))

    def test_all_points_of_weierstrass_groups(self):
        for name in ("w11", "w23"):
            p, a, b, _, _ = WEIERSTRASS[name]
            group = weierstrass_group(name)
            for point in curve_points(p, a, b):
                for way, multiply in ways():
                    for factor in FACTORS[::3] + LONG_FACTORS[:3] + (0, -1):
                        expected = curve_multiple(p, a, factor, point)
                        self.assertEqual(multiply(group, factor, point), expected, (way, factor))

    def test_all_points_of_edwards_groups(self):
        for name in ("e13", "e29"):
            p, a, d, _, _, _ = EDWARDS[name]
            group = edwards_group(name)
            for point in edwards_points(p, a, d):
                for way, multiply in ways():
                    for factor in FACTORS[::3] + LONG_FACTORS[:3] + (0, -1):
                        expected = edwards_multiple(p, a, d, factor, point)
                        self.assertEqual(multiply(group, factor, point), expected, (way, factor))

    def test_long_factors_on_big_groups(self):
        for group in (weierstrass_group("p256"), edwards_group("ed25519"), weierstrass_group("w31")):
            for factor in (LONG_FACTORS[3], -LONG_FACTORS[5], group.order):
                for point in (group.base, group.neutral()):
                    expected = group.multiply(factor, point)
                    for way, multiply in ways():
                        if way in ("ladder", "windows", "signed", "windows 1", "signed 8", "sum"):
                            self.assertEqual(multiply(group, factor, point), expected, (way, factor))

    def test_wrong_width_whatever_the_factor_is(self):
        for group in (weierstrass_group("w11"), edwards_group("e13"), Integers(9)):
            point = group.base if hasattr(group, "base") else 5
            for factor in (0, 1, -1, 17, -17, 10 ** 60, -(10 ** 60)):
                for q in (point, group.neutral()):
                    for width in (0, -1, 9, 10, 1000):
                        with self.assertRaises(OutOfRange):
                            multiply_windows(group, factor, q, width=width)
                    for width in (1, 0, -1, 9, 10, 1000):
                        with self.assertRaises(OutOfRange):
                            multiply_signed(group, factor, q, width=width)


class SumOfMultiplesTest(unittest.TestCase):
    def test_empty_list(self):
        self.assertIsNone(sum_of_multiples(weierstrass_group("w11"), []))
        self.assertEqual(sum_of_multiples(edwards_group("e13"), []), (0, 1))
        self.assertEqual(sum_of_multiples(Integers(5), []), 0)

    def test_several_pairs(self):
        source = random.Random(7)
        for group in (weierstrass_group("w23"), weierstrass_group("w1021"), edwards_group("e61")):
            for size in (1, 2, 3, 5, 8):
                for bits in (1, 3, 10, 80):
                    factors = [source.randrange(-(2 ** bits), 2 ** bits) for _ in range(size)]
                    points = [group.multiply(source.randrange(group.order), group.base) for _ in range(size)]
                    expected = group.neutral()
                    for factor, point in zip(factors, points):
                        expected = group.add(expected, group.multiply(factor, point))
                    pairs = list(zip(factors, points))
                    kept = list(pairs)
                    self.assertEqual(sum_of_multiples(group, pairs), expected)
                    self.assertEqual(pairs, kept)

    def test_zeros_and_neutral_points(self):
        group = weierstrass_group("w11")
        base = group.base
        self.assertIsNone(sum_of_multiples(group, [(0, base)]))
        self.assertIsNone(sum_of_multiples(group, [(0, base), (0, base)]))
        self.assertIsNone(sum_of_multiples(group, [(5, base), (-5, base)]))
        self.assertIsNone(sum_of_multiples(group, [(5, None), (-9, None)]))
        self.assertEqual(sum_of_multiples(group, [(0, base), (-1, base), (3, None)]), group.negate(base))
        self.assertEqual(sum_of_multiples(group, [(1, base), (16, base), (10 ** 9, None), (2, base)]), (5, 10))

    def test_factors_of_very_different_lengths(self):
        group = Integers(10 ** 90)
        pairs = [(1, 3), (-(2 ** 500), 7), (2 ** 299 + 5, 11), (0, 13)]
        self.assertEqual(sum_of_multiples(group, pairs), sum(k * q for k, q in pairs) % 10 ** 90)


if __name__ == "__main__":
    unittest.main()
