"""Points 5, 40, 60 and 61: curveseal.groups."""

import itertools
import math
import unittest

from curveseal.edwards import EdwardsCurve
from curveseal.errors import NotAPoint, Refused
from curveseal.groups import EdwardsGroup, Group, split_point
from curveseal.papers import factors
from curveseal.weierstrass import Curve
from makers import edwards_group, weierstrass_group
from reference import (
    EDWARDS, SIZES, SMALL_CURVES, SMALL_EDWARDS, WEIERSTRASS, curve_multiple, curve_points, curve_sum,
    edwards_multiple, edwards_points, edwards_sum,
)
from values import ODD_VALUES


class FieldsTest(unittest.TestCase):
    def test_weierstrass_groups(self):
        for name, (p, a, b, base, order) in WEIERSTRASS.items():
            curve = Curve(p, a, b)
            group = Group(name, curve, base, order, 1)
            self.assertEqual((group.name, group.kind, group.prime), (name, "weierstrass", p))
            self.assertEqual((group.base, group.order, group.cofactor), (base, order, 1))
            self.assertEqual((group.size, group.order_size), SIZES[name])
            self.assertEqual((group.curve.prime, group.curve.a, group.curve.b), (p, a % p, b))
            self.assertIsInstance(group.curve, Curve)

    def test_edwards_groups(self):
        for name, (p, a, d, base, order, cofactor) in EDWARDS.items():
            group = EdwardsGroup(name, EdwardsCurve(p, a, d), base, order, cofactor)
            self.assertEqual((group.name, group.kind, group.prime), (name, "edwards", p))
            self.assertEqual((group.base, group.order, group.cofactor), (base, order, cofactor))
            self.assertEqual((group.size, group.order_size), SIZES[name])
            self.assertEqual((group.curve.prime, group.curve.a, group.curve.d), (p, a % p, d))
            self.assertIsInstance(group.curve, EdwardsCurve)

    def test_sizes_at_the_edges(self):
        # Over 251 there are curves with 257 points and with less than 256 ones; 257 is a prime of two bytes.
        self.assertEqual(edwards_group("e241").size, 1)
        for p, size in ((251, 1), (257, 2), (263, 2)):
            for a, b in itertools.product(range(1, 12), repeat=2):
                if (4 * a ** 3 + 27 * b ** 2) % p != 0:
                    points = curve_points(p, a, b)
                    group = Group("edge", Curve(p, a, b), points[1], len(points), 1)
                    self.assertEqual(group.size, size)
                    self.assertEqual(group.order_size, 1 if len(points) < 256 else 2)
                    break
        four_bytes = EdwardsGroup("edge", edwards_group("e31").curve, EDWARDS["e31"][3], 2 ** 8 * EDWARDS["e31"][4], 1)
        self.assertEqual((four_bytes.size, four_bytes.order_size), (4, 5))

    def test_names_are_free(self):
        p, a, b, base, order = WEIERSTRASS["w11"]
        self.assertEqual(Group("", Curve(p, a, b), base, order, 7).name, "")
        self.assertEqual(Group("a name", Curve(p, a, b), base, order, 7).cofactor, 7)


class MakingTest(unittest.TestCase):
    def test_weierstrass_base_that_is_no_point(self):
        curve = Curve(11, 8, 1)
        for base in ODD_VALUES + ((0, 11), (0, 21), (11, 10), (0, -1), (1, 1), (0, 10, 1), [0, 10], (0, 10.0)):
            # A wrong order does not hide it.
            for order in (17, 1, 16, 0):
                with self.assertRaises(NotAPoint):
                    Group("wrong", curve, base if base != (0, 1) else (1, 0), order, 1)
        self.assertEqual(Group("right", curve, (0, 1), 17, 1).base, (0, 1))

    def test_weierstrass_base_none(self):
        for order in (17, 1, 3):
            with self.assertRaises(NotAPoint):
                Group("wrong", Curve(11, 8, 1), None, order, 1)

    def test_weierstrass_order(self):
        for order in range(1, 60):
            if order % 17 == 0:
                self.assertEqual(Group("right", Curve(11, 8, 1), (0, 10), order, 1).order, order)
            else:
                with self.assertRaises(Refused):
                    Group("wrong", Curve(11, 8, 1), (0, 10), order, 1)

    def test_edwards_base_that_is_no_point(self):
        curve = EdwardsCurve(13, 12, 6)
        for base in ODD_VALUES + ((0, 14), (13, 1), (0, -1), (1, 1), (10, 9, 1), [10, 9], (10, 9.0), (10, 22), None):
            for order in (5, 1, 4, 0):
                with self.assertRaises(NotAPoint):
                    EdwardsGroup("wrong", curve, base, order, 4)

    def test_edwards_base_neutral(self):
        for order in (5, 1, 3):
            with self.assertRaises(NotAPoint):
                EdwardsGroup("wrong", EdwardsCurve(13, 12, 6), (0, 1), order, 4)

    def test_edwards_order(self):
        for order in range(1, 30):
            if order % 5 == 0:
                self.assertEqual(EdwardsGroup("right", EdwardsCurve(13, 12, 6), (10, 9), order, 4).order, order)
            else:
                with self.assertRaises(Refused):
                    EdwardsGroup("wrong", EdwardsCurve(13, 12, 6), (10, 9), order, 4)

    def test_edwards_base_of_order_two(self):
        self.assertEqual(EdwardsGroup("two", EdwardsCurve(13, 12, 6), (0, 12), 2, 10).base, (0, 12))
        with self.assertRaises(Refused):
            EdwardsGroup("two", EdwardsCurve(13, 12, 6), (0, 12), 5, 4)


class WeierstrassMethodsTest(unittest.TestCase):
    def test_points_of_small_groups(self):
        for name in ("w11", "w23", "w43"):
            p, a, b, _, _ = WEIERSTRASS[name]
            group = weierstrass_group(name)
            points = curve_points(p, a, b)
            self.assertIsNone(group.neutral())
            for first, second in itertools.product(points, repeat=2):
                self.assertEqual(group.add(first, second), curve_sum(p, a, first, second))
            for point in points:
                self.assertIsNone(group.add(point, group.negate(point)))
                self.assertIs(group.is_small(point), point is None)
                for factor in list(range(-40, 41)) + [3 ** 90, -(2 ** 90)]:
                    self.assertEqual(group.multiply(factor, point), curve_multiple(p, a, factor, point))
            for pair in itertools.product(range(-1, p + 2), repeat=2):
                self.assertIs(group.has(pair), pair in points)

    def test_has_values_of_every_kind(self):
        group = weierstrass_group("w11")
        for value in ODD_VALUES:
            fits = value is None or (type(value) is tuple and value == (0, 1) and type(value[1]) is int)
            self.assertIs(group.has(value), fits)

    def test_lift(self):
        for name in ("w11", "w23", "w251"):
            group = weierstrass_group(name)
            for x in range(-2, group.prime + 2):
                for odd in (True, False):
                    self.assertEqual(group.lift(x, odd), group.curve.lift(x, odd))
        self.assertEqual(weierstrass_group("w11").lift(0, True), (0, 1))
        self.assertEqual(weierstrass_group("w11").lift(0, False), (0, 10))
        self.assertIsNone(weierstrass_group("w11").lift(11, False))

    def test_example(self):
        self.assertEqual(weierstrass_group("w11").add((0, 10), (0, 10)), (5, 10))

    def test_small_points(self):
        for p, a, b in SMALL_CURVES:
            points = curve_points(p, a, b)
            if len(points) == 1:
                continue
            for cofactor in (1, 2, 3, 4, 6, len(points)):
                group = Group("small", Curve(p, a, b), points[1], len(points), cofactor)
                for point in points:
                    small = curve_multiple(p, a, cofactor, point) is None
                    self.assertIs(group.is_small(point), small)

    def test_big_groups(self):
        for name in ("p256", "secp256k1", "w31"):
            p, a, _, base, order = WEIERSTRASS[name]
            group = weierstrass_group(name)
            self.assertIsNone(group.multiply(order, base))
            self.assertEqual(group.multiply(order // 3, base), curve_multiple(p, a, order // 3, base))
            self.assertEqual(group.lift(base[0], base[1] % 2 == 1), base)
            self.assertIs(group.is_small(base), False)
            self.assertIs(group.is_small(None), True)
            self.assertIs(group.has(base), True)


class EdwardsMethodsTest(unittest.TestCase):
    def test_points_of_small_groups(self):
        for name in ("e13", "e29", "e61"):
            p, a, d, _, order, cofactor = EDWARDS[name]
            group = edwards_group(name)
            points = edwards_points(p, a, d)
            self.assertEqual(len(points), order * cofactor)
            self.assertEqual(group.neutral(), (0, 1))
            for first, second in itertools.product(points, repeat=2):
                self.assertEqual(group.add(first, second), edwards_sum(p, a, d, first, second))
            for point in points:
                self.assertEqual(group.add(point, group.negate(point)), (0, 1))
                self.assertIs(group.is_small(point), edwards_multiple(p, a, d, cofactor, point) == (0, 1))
                for factor in list(range(-40, 41)) + [3 ** 90, -(2 ** 90)]:
                    self.assertEqual(group.multiply(factor, point), edwards_multiple(p, a, d, factor, point))
            for pair in itertools.product(range(-1, p + 2), repeat=2):
                self.assertIs(group.has(pair), pair in points)
            self.assertEqual(sum(group.is_small(point) for point in points), cofactor)

    def test_examples(self):
        self.assertEqual(edwards_group("e13").multiply(5, (10, 9)), (0, 1))
        self.assertIsNone(edwards_group("e13").lift(1, True))

    def test_has_values_of_every_kind(self):
        group = edwards_group("e13")
        for value in ODD_VALUES:
            fits = type(value) is tuple and value == (0, 1) and type(value[1]) is int
            self.assertIs(group.has(value), fits)

    def test_lift(self):
        for name in ("e13", "e29", "e241"):
            group = edwards_group(name)
            for y in range(-2, group.prime + 2):
                for odd in (True, False):
                    self.assertEqual(group.lift(y, odd), group.curve.lift(y, odd))
        self.assertEqual(edwards_group("e13").lift(9, False), (10, 9))
        self.assertEqual(edwards_group("e13").lift(9, True), (3, 9))

    def test_big_groups(self):
        for name in ("ed25519", "e31"):
            p, a, d, base, order, cofactor = EDWARDS[name]
            group = edwards_group(name)
            self.assertEqual(group.multiply(order, base), (0, 1))
            self.assertEqual(group.multiply(order // 3, base), edwards_multiple(p, a, d, order // 3, base))
            self.assertEqual(group.lift(base[1], base[0] % 2 == 1), base)
            self.assertIs(group.is_small(base), False)
            self.assertIs(group.is_small((0, p - 1)), True)
            self.assertIs(group.is_small((0, 1)), True)
            self.assertIs(group.has(base), True)


class SplitPointTest(unittest.TestCase):
    def check(self, group, points):
        """Compare with a search through all pairs of points."""
        neutral = group.neutral()
        small = [point for point in points if group.multiply(group.cofactor, point) == neutral]
        other = [point for point in points if group.multiply(group.order, point) == neutral]
        for point in points:
            pairs = [(s, o) for s in small for o in other if group.add(s, o) == point]
            self.assertEqual([split_point(group, point)], pairs)

    def test_edwards_groups(self):
        for name in ("e13", "e29", "e61"):
            group = edwards_group(name)
            self.check(group, edwards_points(group.prime, group.curve.a, group.curve.d))

    def test_weierstrass_groups(self):
        checked = 0
        for p, a, b in SMALL_CURVES:
            points = curve_points(p, a, b)
            for order, exponent in factors(len(points)):
                cofactor = len(points) // order
                base = next(q for q in points[1:] if curve_multiple(p, a, order, q) is None)
                group = Group("split", Curve(p, a, b), base, order, cofactor)
                if exponent == 1:
                    self.check(group, points)
                    checked += cofactor > 1
                else:
                    for point in points:
                        with self.assertRaises(Refused):
                            split_point(group, point)
        self.assertGreaterEqual(checked, 3)

    def test_common_divisors(self):
        curve = EdwardsCurve(13, 12, 6)
        points = edwards_points(13, 12, 6)
        for order, cofactor in ((2, 10), (2, 2), (20, 4), (10, 5), (10, 4)):
            base = next(q for q in points[1:] if q != (0, 1) and curve.multiply(order, q) == (0, 1))
            group = EdwardsGroup("common", curve, base, order, cofactor)
            self.assertGreater(math.gcd(order, cofactor), 1)
            for point in points:
                with self.assertRaises(Refused):
                    split_point(group, point)

    def test_cofactor_one(self):
        group = weierstrass_group("w11")
        for point in curve_points(11, 8, 1):
            self.assertEqual(split_point(group, point), (None, point))

    def test_big_groups(self):
        for name in ("ed25519", "e31", "e1021", "e241"):
            group = edwards_group(name)
            other = group.multiply(12345, group.base)
            for small in ((0, 1), (0, group.prime - 1), group.lift(0, False), group.lift(0, True)):
                if small is not None:
                    self.assertEqual(split_point(group, group.add(small, other)), (small, other))
        for name in ("p256", "secp256k1"):
            group = weierstrass_group(name)
            self.assertEqual(split_point(group, group.base), (None, group.base))

    def test_every_small_curve_of_edwards(self):
        for p, a, d in SMALL_EDWARDS:
            points = edwards_points(p, a, d)
            for order, exponent in factors(len(points)):
                if exponent == 1:
                    base = next(q for q in points if q != (0, 1) and edwards_multiple(p, a, d, order, q) == (0, 1))
                    self.check(EdwardsGroup("split", EdwardsCurve(p, a, d), base, order, len(points) // order), points)


if __name__ == "__main__":
    unittest.main()
