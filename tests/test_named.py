"""Points 5, 38, 41 and 63: curveseal.named."""

import unittest

from curveseal.edwards import EdwardsCurve
from curveseal.errors import CurveError, Malformed
from curveseal.extended import multiply_extended
from curveseal.groups import EdwardsGroup, Group
from curveseal.jacobian import multiply_jacobian
from curveseal.named import GROUP_NAMES, group_named
from curveseal.orders import count_points, point_order
from curveseal.ways import multiply_ladder, multiply_signed, multiply_windows, sum_of_multiples
from curveseal.weierstrass import Curve
from reference import EDWARDS, SIZES, WEIERSTRASS, curve_multiple, edwards_multiple, edwards_points

NAMES = (
    "p256", "secp256k1", "w11", "w23", "w43", "w79", "w251", "w1021", "w65521", "w31",
    "ed25519", "e13", "e29", "e61", "e241", "e1021", "e65521", "e31",
)
BIG = ("p256", "secp256k1", "ed25519")


def fields(group):
    return (
        group.name, group.kind, group.prime, group.base, group.order, group.cofactor, group.size, group.order_size,
    )


def multiple(name, factor, point):
    """Return the multiple of a point of a named group, by the sums of the reference."""
    if name in WEIERSTRASS:
        return curve_multiple(WEIERSTRASS[name][0], WEIERSTRASS[name][1], factor, point)
    return edwards_multiple(*EDWARDS[name][:3], factor, point)


class NamesTest(unittest.TestCase):
    def test_names_in_order(self):
        self.assertEqual(GROUP_NAMES, NAMES)
        self.assertIs(type(GROUP_NAMES), tuple)
        self.assertEqual(set(GROUP_NAMES), set(WEIERSTRASS) | set(EDWARDS))

    def test_every_name_has_its_group(self):
        for name in GROUP_NAMES:
            self.assertEqual(group_named(name).name, name)

    def test_strings_near_a_name(self):
        near = ["", " ", "w", "e", "p", "256", "P-256", "p-256", "secp256r1", "ed448", "w12", "e12", "w0", "curve25519"]
        for name in NAMES:
            near += [name.upper(), name.title(), name + " ", " " + name, name + "\n", name + "0", name + name]
            near += [name[:-1], name[1:], name[0] + "0" + name[1:], name[::-1], name[0] + " " + name[1:], name + "\0"]
            near.append(("e" if name[0] == "w" else "w") + name[1:])
        for text in near:
            if text not in NAMES:
                with self.subTest(text=text), self.assertRaises(Malformed):
                    group_named(text)
        self.assertTrue(issubclass(Malformed, CurveError))


class FieldsTest(unittest.TestCase):
    def test_weierstrass_groups(self):
        for name, (p, a, b, base, order) in WEIERSTRASS.items():
            with self.subTest(name=name):
                group = group_named(name)
                self.assertEqual(fields(group), (name, "weierstrass", p, base, order, 1, *SIZES[name]))
                self.assertEqual((group.curve.prime, group.curve.a, group.curve.b), (p, a % p, b))
                self.assertIs(type(group), Group)
                self.assertIs(type(group.curve), Curve)

    def test_edwards_groups(self):
        for name, (p, a, d, base, order, cofactor) in EDWARDS.items():
            with self.subTest(name=name):
                group = group_named(name)
                self.assertEqual(fields(group), (name, "edwards", p, base, order, cofactor, *SIZES[name]))
                self.assertEqual((group.curve.prime, group.curve.a, group.curve.d), (p, a % p, d))
                self.assertIs(type(group), EdwardsGroup)
                self.assertIs(type(group.curve), EdwardsCurve)

    def test_written_out_numbers(self):
        self.assertEqual(group_named("p256").prime, 2 ** 256 - 2 ** 224 + 2 ** 192 + 2 ** 96 - 1)
        self.assertEqual(group_named("p256").curve.a, group_named("p256").prime - 3)
        self.assertEqual(group_named("secp256k1").prime, 2 ** 256 - 2 ** 32 - 977)
        group = group_named("ed25519")
        self.assertEqual(group.prime, 2 ** 255 - 19)
        self.assertEqual(group.curve.a, group.prime - 1)
        self.assertEqual(group.curve.d, -121665 * pow(121666, -1, group.prime) % group.prime)
        self.assertEqual(group.order, 2 ** 252 + 27742317777372353535851937790883648493)

    def test_base_and_order(self):
        for name in NAMES:
            group = group_named(name)
            self.assertTrue(group.has(group.base))
            self.assertNotEqual(group.base, group.neutral())
            self.assertEqual(multiple(name, group.order, group.base), group.neutral())
            self.assertEqual(group.multiply(group.order, group.base), group.neutral())
            self.assertEqual(point_order(group, group.base, group.order, [group.order]), group.order)

    def test_orders_are_odd_primes(self):
        for name in NAMES:
            order = group_named(name).order
            for witness in (2, 3, 5, 7, 11, 13):
                self.assertTrue(witness % order == 0 or pow(witness, order - 1, order) == 1)
            self.assertEqual(order % 2, 1)

    def test_number_of_points(self):
        for name in ("w11", "w23", "w43", "w79", "w251", "w1021", "w65521"):
            self.assertEqual(count_points(group_named(name).curve), group_named(name).order)
        for name in ("e13", "e29", "e61", "e241", "e1021"):
            group = group_named(name)
            points = edwards_points(*EDWARDS[name][:3])
            self.assertEqual(len(points), group.order * group.cofactor)

    def test_examples(self):
        self.assertEqual(group_named("w11").add((0, 10), (0, 10)), (5, 10))
        self.assertEqual(group_named("e13").multiply(5, (10, 9)), (0, 1))
        self.assertIsNone(group_named("e13").lift(1, True))


class NewObjectsTest(unittest.TestCase):
    def test_each_call_returns_a_new_group(self):
        for name in NAMES:
            expected = fields(group_named(name))
            first, second = group_named(name), group_named(name)
            self.assertIsNot(first, second)
            self.assertIsNot(first.curve, second.curve)
            first.name, first.kind, first.prime, first.base, first.order = "other", "kind", 7, (1, 1), 3
            first.cofactor = first.size = first.order_size = 99
            first.curve.prime = first.curve.a = 5
            for group in (second, group_named(name)):
                self.assertEqual(fields(group), expected)
                self.assertEqual(group.curve.prime, expected[2])
                self.assertEqual(group.multiply(group.order + 1, group.base), group.base)


class WaysTest(unittest.TestCase):
    def check(self, name, factor, point):
        group = group_named(name)
        expected = multiple(name, factor, point)
        self.assertEqual(group.multiply(factor, point), expected)
        self.assertEqual(group.curve.multiply(factor, point), expected)
        self.assertEqual(multiply_ladder(group, factor, point), expected)
        self.assertEqual(sum_of_multiples(group, [(factor, point)]), expected)
        coordinates = multiply_jacobian if group.kind == "weierstrass" else multiply_extended
        self.assertEqual(coordinates(group.curve, factor, point), expected)
        for width in (1, 2, 4, 8):
            self.assertEqual(multiply_windows(group, factor, point, width=width), expected)
        for width in (2, 4, 8):
            self.assertEqual(multiply_signed(group, factor, point, width=width), expected)

    def test_small_groups(self):
        for name in NAMES:
            if name in BIG:
                continue
            group = group_named(name)
            n = group.order
            point = group.multiply(n // 2, group.base)
            for factor in (0, 1, 2, -1, -2, 7, n - 2, n - 1, n, n + 1, n + 2, 1 - n, -n, -n - 1, 3 * n + 5, 2 ** 70):
                self.check(name, factor, group.base)
                self.check(name, factor, point)
                self.check(name, factor, group.neutral())

    def test_big_groups(self):
        for name in BIG:
            group = group_named(name)
            n = group.order
            point = group.multiply(3 ** 100, group.base)
            for factor in (0, -1, n - 1, n, n + 1, -n - 2, n // 3, 5 * n + 4):
                with self.subTest(name=name, factor=factor):
                    self.check(name, factor, point)
            self.check(name, n - 2, group.base)
            self.check(name, n + 2, group.neutral())

    def test_points_outside_of_the_base_points_multiples(self):
        for name in ("e13", "e29", "e61", "ed25519"):
            group = group_named(name)
            for small in ((0, group.prime - 1), group.lift(0, False)):
                if small is not None:
                    for factor in (0, 1, 2, 3, 4, 5, -1, group.order, group.order + 1, -group.order - 2):
                        self.check(name, factor, group.add(small, group.base))


if __name__ == "__main__":
    unittest.main()
