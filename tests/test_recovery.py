"""Points 111 and 112: curveseal.recovery."""

import functools
import itertools
import unittest

from curveseal.ecdsa import accepts, public_key, sign, sign_with
from curveseal.errors import OutOfRange, Refused
from curveseal.groups import Group
from curveseal.hashes import Sha256
from curveseal.named import group_named
from curveseal.recovery import find_hint, recover_key, recover_keys, signature_points
from curveseal.weierstrass import Curve
from lists import check_lists
from reference import EDWARDS, WEIERSTRASS, curve_multiple, curve_points, curve_sum
from tables import LESS_THAN_THE_PRIME, ORDER_THREE, ORDER_TWO, Tables, made_group, number_of

# Curves with points whose y is 0, and an order of other points.
EVEN_CURVES = (((11, 2, 0), 3), ((7, 6, 4), 5), ((11, 10, 10), 7))


def even_group(numbers, order):
    """Return a group with the cofactor 1 in its field, although the curve has points with y 0."""
    p, a, b = numbers
    for base in curve_points(p, a, b)[1:]:
        if all(curve_multiple(p, a, k, base) is not None for k in range(1, order)):
            if curve_multiple(p, a, order, base) is None:
                return Group("even", Curve(p, a, b), base, order, 1)
    raise AssertionError("there is no base of this order")


@functools.lru_cache
def all_points(p, a, b):
    return curve_points(p, a, b)


def points_of(group, r):
    """Return the pairs of point 111, by a look at all points of the curve."""
    p, n = group.prime, group.order
    found = []
    for point in all_points(p, group.curve.a, group.curve.b)[1:]:
        if point[0] % n == r:
            found.append((2 * (point[0] // n) + point[1] % 2, point))
    return sorted(found)


def keys_of(group, digest, signature):
    """Return the pairs (hint, key) by the formula of point 111, on the sums of the reference."""
    p, a, n = group.prime, group.curve.a, group.order
    r, s = signature
    found = []
    for hint, point in points_of(group, r):
        minus = curve_multiple(p, a, -number_of(group, digest), group.base)
        total = curve_sum(p, a, curve_multiple(p, a, s, point), minus)
        key = curve_multiple(p, a, pow(r, -1, n), total)
        if key is not None:
            found.append((hint, key))
    return found


def small_groups():
    return [group_named("w11"), made_group(*LESS_THAN_THE_PRIME), made_group(*ORDER_THREE)]


class SignaturePointsTest(unittest.TestCase):
    def test_every_number_of_small_groups(self):
        counts = set()
        for group in small_groups() + [group_named(name) for name in ("w23", "w43", "w79", "w251")]:
            for r in range(1, group.order):
                found = signature_points(group, r)
                self.assertEqual(found, points_of(group, r))
                counts.add(len(found))
                for pair in found:
                    self.assertIs(type(pair), tuple)
        self.assertEqual(counts, {0, 2, 4})

    def test_points_with_y_zero(self):
        for numbers, order in EVEN_CURVES:
            group = even_group(numbers, order)
            zeros = 0
            for r in range(1, order):
                found = signature_points(group, r)
                self.assertEqual(found, points_of(group, r))
                zeros += sum(point[1] == 0 for _, point in found)
            self.assertGreater(zeros, 0)

    def test_numbers_that_stand_for_two_coordinates(self):
        for name in ("p256", "secp256k1", "w1021", "w65521"):
            group = group_named(name)
            p, a, n = group.prime, group.curve.a, group.order
            self.assertLess(n, p)
            for r in (1, 2, 3, 4, 5, 6, p - n - 1, p - n, n - 1):
                expected = []
                for times, x in enumerate(range(r, p, n)):
                    square = (x ** 3 + a * x + group.curve.b) % p
                    self.assertNotEqual(square, 0)
                    if pow(square, (p - 1) // 2, p) == 1:
                        expected += [(2 * times, x, 0), (2 * times + 1, x, 1)]
                found = signature_points(group, r)
                self.assertEqual([(hint, x, y % 2) for hint, (x, y) in found], expected)
                for _, point in found:
                    self.assertTrue(group.has(point))
            hints = [hint for r in range(1, 9) for hint, _ in signature_points(group, r)]
            self.assertTrue({0, 1, 2, 3} == set(hints))

    def test_out_of_range(self):
        for name in ("w11", "p256"):
            group = group_named(name)
            for r in (0, -1, group.order, group.order + 1, -group.order, 2 ** 600):
                with self.assertRaises(OutOfRange):
                    signature_points(group, r)


class RecoverKeysTest(unittest.TestCase):
    def test_all_keys_under_which_a_signature_is_accepted(self):
        for group in small_groups():
            tables = Tables(group)
            n = group.order
            for byte in (0, 8, 100, 255):
                for signature in itertools.product(range(1, n), repeat=2):
                    expected = []
                    for public in tables.points[1:]:
                        if tables.accepted(public, [byte], signature):
                            x, y = tables.checked_point(public, [byte], signature)
                            expected.append((2 * (x // n) + y % 2, public))
                    found = recover_keys(group, [byte], signature)
                    self.assertEqual(found, sorted(expected))
                    self.assertEqual(len({hint for hint, _ in found}), len({key for _, key in found}))

    def test_formula(self):
        for name in ("w23", "w43", "w251"):
            group = group_named(name)
            n = group.order
            for byte, r, s in itertools.product((0, 3, 255), range(1, n, 5), range(1, n, 9)):
                self.assertEqual(recover_keys(group, [byte], (r, s)), keys_of(group, [byte], (r, s)))

    def test_keys_that_are_infinity_are_left_out(self):
        for group in small_groups():
            left_out = 0
            shift = 8 - group.order.bit_length()
            for r, s, number in itertools.product(range(1, group.order), repeat=3):
                points = points_of(group, r)
                keys = recover_keys(group, [number << shift], (r, s))
                self.assertEqual(keys, keys_of(group, [number << shift], (r, s)))
                left_out += len(points) - len(keys)
            self.assertGreater(left_out, 0)

    def test_points_with_y_zero(self):
        for numbers, order in EVEN_CURVES:
            group = even_group(numbers, order)
            for r, s, byte in itertools.product(range(1, order), range(1, order), (0, 64, 128, 255)):
                keys = keys_of(group, [byte], (r, s))
                self.assertEqual(recover_keys(group, [byte], (r, s)), keys)
                for hint, key in keys:
                    self.assertEqual(recover_key(group, [byte], (r, s), hint), key)

    def test_what_was_signed(self):
        for name in ("w11", "w251", "w65521", "w31", "p256", "secp256k1"):
            group = group_named(name)
            for secret in (1, 2, group.order - 1):
                public = public_key(group, secret)
                for digest in ([1, 2, 3], [255] * 40):
                    signature = sign(group, secret, digest, Sha256())
                    found = recover_keys(group, digest, signature)
                    self.assertIn(public, [key for _, key in found])
                    for _, key in found:
                        self.assertIs(accepts(group, key, digest, signature), True)
                    hint = find_hint(group, public, digest, signature)
                    self.assertEqual(recover_key(group, digest, signature, hint), public)

    def test_hint_of_a_known_nonce(self):
        for name in ("p256", "secp256k1", "w31", "w251"):
            group = group_named(name)
            for nonce in (1, 2, 5, 99, group.order - 1):
                x, y = group.multiply(nonce, group.base)
                signature = sign_with(group, 8, nonce, [9] * 32)
                if signature is None:
                    self.assertEqual(x % group.order, 0)
                    continue
                hint = 2 * (x // group.order) + y % 2
                self.assertEqual(find_hint(group, public_key(group, 8), [9] * 32, signature), hint)
                self.assertEqual(recover_key(group, [9] * 32, signature, hint), public_key(group, 8))
                # The negative of s belongs to the negative of the point.
                r, s = signature
                self.assertEqual(
                    recover_key(group, [9] * 32, (r, group.order - s), hint ^ 1), public_key(group, 8)
                )

    def test_greater_coordinates_of_big_groups(self):
        for name in ("p256", "secp256k1"):
            group = group_named(name)
            r = next(r for r in range(1, 99) if 2 in [hint for hint, _ in signature_points(group, r)])
            for s in (1, 5, group.order - 1):
                found = recover_keys(group, [4] * 32, (r, s))
                self.assertEqual([hint for hint, _ in found], [hint for hint, _ in signature_points(group, r)])
                for hint, key in found:
                    self.assertIs(accepts(group, key, [4] * 32, (r, s)), True)
                    self.assertEqual(find_hint(group, key, [4] * 32, (r, s)), hint)

    def test_numbers_out_of_range(self):
        for name in ("w11", "p256"):
            group = group_named(name)
            n = group.order
            for signature in ((0, 1), (1, 0), (n, 1), (1, n), (n + 1, 1), (-1, 1), (1, -1), (2 ** 600, 2 ** 600)):
                self.assertEqual(recover_keys(group, [1], signature), [])
                for hint in range(4):
                    with self.assertRaises(Refused):
                        recover_key(group, [1], signature, hint)
                for public in (group.base, None):
                    with self.assertRaises(Refused):
                        find_hint(group, public, [1], signature)

    def test_lists(self):
        group = group_named("w11")
        check_lists(self, signature_points, group, 1)
        check_lists(self, recover_keys, group, [1, 2], (1, 5))
        check_lists(self, recover_keys, group, [1, 2], (0, 5))
        signature = sign(group, 5, [1, 2], Sha256())
        check_lists(self, find_hint, group, public_key(group, 5), [1, 2], signature)


class RecoverKeyTest(unittest.TestCase):
    def test_every_hint(self):
        for group in small_groups():
            refused = 0
            for byte, r, s in itertools.product((0, 8, 255), range(1, group.order), range(1, group.order)):
                keys = dict(keys_of(group, [byte], (r, s)))
                for hint in range(-2, 8):
                    if hint in keys:
                        self.assertEqual(recover_key(group, [byte], (r, s), hint), keys[hint])
                    else:
                        refused += 1
                        with self.assertRaises(Refused):
                            recover_key(group, [byte], (r, s), hint)
            self.assertGreater(refused, 0)

    def test_hints_far_away(self):
        for name in ("w11", "p256"):
            group = group_named(name)
            signature = sign(group, 3, [1], Sha256())
            for hint in (4, 5, 100, -1, -2, 10 ** 30, -(10 ** 30), 2 ** 256):
                with self.assertRaises(Refused):
                    recover_key(group, [1], signature, hint)


class FindHintTest(unittest.TestCase):
    def test_every_point(self):
        for group in small_groups():
            points = curve_points(group.prime, group.curve.a, group.curve.b)
            for byte, r, s in itertools.product((0, 8, 255), range(1, group.order), range(1, group.order)):
                hints = {key: hint for hint, key in keys_of(group, [byte], (r, s))}
                for public in points:
                    if public in hints:
                        self.assertEqual(find_hint(group, public, [byte], (r, s)), hints[public])
                    else:
                        with self.assertRaises(Refused):
                            find_hint(group, public, [byte], (r, s))

    def test_what_is_no_key(self):
        for name in ("w11", "p256"):
            group = group_named(name)
            signature = sign(group, 3, [100], Sha256())
            x, y = public_key(group, 3)
            self.assertIsNotNone(find_hint(group, (x, y), [100], signature))
            for public in (None, (x + group.prime, y), (x, y + group.prime), (x, y + 1), (0, 0), (-1, -1)):
                with self.assertRaises(Refused):
                    find_hint(group, public, [100], signature)


class ErrorsTest(unittest.TestCase):
    def check_refused(self, group):
        calls = (
            (signature_points, group, 1), (signature_points, group, 0), (signature_points, group, None),
            (recover_keys, group, [1], (1, 1)), (recover_keys, group, None, None),
            (recover_key, group, [1], (1, 1), 0), (recover_key, group, None, None, None),
            (find_hint, group, group.base, [1], (1, 1)), (find_hint, group, None, None, None),
        )
        for function, *arguments in calls:
            with self.subTest(function=function.__name__), self.assertRaises(OutOfRange):
                function(*arguments)

    def test_other_groups(self):
        for name in EDWARDS:
            self.check_refused(group_named(name))
        p, a, b, base, order = WEIERSTRASS["w11"]
        for cofactor in (2, 4, 0):
            self.check_refused(Group("other", Curve(p, a, b), base, order, cofactor))
        self.check_refused(made_group(*ORDER_TWO))

    def test_digests_that_are_too_long(self):
        for name in ("w11", "p256"):
            group = group_named(name)
            for signature in ((1, 1), (0, 0), None):
                with self.assertRaises(OutOfRange):
                    recover_keys(group, [0] * 1025, signature)
                with self.assertRaises(OutOfRange):
                    recover_key(group, [0] * 1025, signature, 0)
                with self.assertRaises(OutOfRange):
                    find_hint(group, None, [0] * 1025, signature)
            digest = [0] * 1024
            signature = sign(group, 3, digest, Sha256())
            self.assertIn(public_key(group, 3), [key for _, key in recover_keys(group, digest, signature)])


if __name__ == "__main__":
    unittest.main()
