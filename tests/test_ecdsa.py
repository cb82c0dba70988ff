"""Points 105 to 110: curveseal.ecdsa."""

import itertools
import unittest

from curveseal.ecdsa import accepts, is_low, low_form, message_number, public_key, sign, sign_with
from curveseal.errors import OutOfRange, Refused
from curveseal.groups import EdwardsGroup, Group
from curveseal.hashes import Sha256, Sha512
from curveseal.named import group_named
from curveseal.nonce import NonceSource
from curveseal.weierstrass import Curve
from lists import check_lists
from reference import EDWARDS, WEIERSTRASS, curve_multiple, curve_sum
from tables import (
    LESS_THAN_THE_PRIME, NO_NONCE, ORDER_THREE, ORDER_TWO, Tables, made_group, number_of, signature_of,
)

HASHERS = {"sha256": Sha256(), "sha512": Sha512()}
# RFC 6979, A.2.5: the secret, the public key, and the signatures of two messages.
SECRET = 0xC9AFA9D845BA75166B5C215767B1D6934E50C3DB36E89B127B8A622B120F6721
PUBLIC = (
    0x60FED4BA255A9D31C961EB74C6356D68C049B8923B61FA6CE669622E60F29FB6,
    0x7903FE1008B8BC99A41AE9E95628BC64F2F1B20C2D7E9F5177A3C294D4462299,
)
PUBLISHED = {
    ("sha256", "sample"): (
        0xEFD48B2AACB6A8FD1140DD9CD45E81D69D2C877B56AAF991C34D0EA84EAF3716,
        0xF7CB1C942D657C41D436C7A1B6E29F65F3E900DBB9AFF4064DC4AB2F843ACDA8,
    ),
    ("sha512", "sample"): (
        0x8496A60B5E9B47C825488827E0495B0E3FA109EC4568FD3F8D1097678EB97F00,
        0x2362AB1ADBE2B8ADF9CB9EDAB740EA6049C028114F2460F96554F61FAE3302FE,
    ),
    ("sha256", "test"): (
        0xF1ABB023518351CD71D881567B1EA663ED3EFCF6C5132B354F28D3B0B7D38367,
        0x019F4113742A2B14BD25926B49C649155F267E60D3814B4C0CC84250E46F0083,
    ),
    ("sha512", "test"): (
        0x461D93F31B6540894788FD206C07CFA0CC35F46FA3C91816FFF1040AD1581A04,
        0x39AF9F15DE0DB8D97E72719C74820D304CE5226E32DEDAE67519E840D1194E55,
    ),
}


class MessageNumberTest(unittest.TestCase):
    def test_small_groups(self):
        for name in ("w11", "w23", "w251", "w1021"):
            group = group_named(name)
            for length in range(4):
                for digest in itertools.product((0, 1, 127, 128, 200, 255), repeat=length):
                    self.assertEqual(message_number(group, list(digest)), number_of(group, digest))
            for byte in range(256):
                self.assertEqual(message_number(group, [byte]), number_of(group, [byte]))

    def test_digests_of_other_lengths(self):
        for name in ("p256", "secp256k1", "w31", "w11"):
            group = group_named(name)
            for length in (0, 1, 31, 32, 33, 64, 1023, 1024):
                for digest in ([255] * length, [(7 * at + 3) % 256 for at in range(length)]):
                    self.assertEqual(message_number(group, digest), number_of(group, digest))
            for length in (1025, 2000):
                with self.assertRaises(OutOfRange):
                    message_number(group, [0] * length)

    def test_numbers_at_the_order(self):
        group = group_named("p256")
        for number in (group.order - 1, group.order, group.order + 1):
            digest = list(number.to_bytes(32, "big"))
            self.assertEqual(message_number(group, digest), number % group.order)
            self.assertEqual(message_number(group, digest + [255]), number % group.order)


class PublicKeyTest(unittest.TestCase):
    def test_keys(self):
        for name in ("w11", "w23", "w251"):
            group = group_named(name)
            for secret in range(1, group.order):
                expected = curve_multiple(group.prime, group.curve.a, secret, group.base)
                self.assertEqual(public_key(group, secret), expected)
        self.assertEqual(public_key(group_named("p256"), SECRET), PUBLIC)

    def test_secrets_out_of_range(self):
        for name in ("w11", "p256"):
            group = group_named(name)
            for secret in (0, -1, group.order, group.order + 1, -group.order):
                with self.assertRaises(OutOfRange):
                    public_key(group, secret)


class SignWithTest(unittest.TestCase):
    def test_every_secret_nonce_and_digest(self):
        for group in (group_named("w11"), group_named("w23"), made_group(*NO_NONCE), made_group(*LESS_THAN_THE_PRIME)):
            n = group.order
            shift = 8 - n.bit_length()
            digests = [[], [1, 0]] + [[number << shift] for number in range(2 ** n.bit_length())]
            for secret, nonce, digest in itertools.product(range(1, n), range(1, n), digests):
                expected = signature_of(group, secret, nonce, digest)
                self.assertEqual(sign_with(group, secret, nonce, digest), expected)

    def test_no_signature(self):
        found = {"r": 0, "s": 0}
        for group in (group_named("w43"), group_named("w11")):
            n = group.order
            for secret, nonce in itertools.product(range(1, n), repeat=2):
                r = group.multiply(nonce, group.base)[0] % n
                if r == 0:
                    for digest in ([0], [1 << (8 - n.bit_length())], [255]):
                        self.assertIsNone(sign_with(group, secret, nonce, digest))
                    found["r"] += 1
                else:
                    zero = -r * secret % n
                    self.assertIsNone(sign_with(group, secret, nonce, [zero << (8 - n.bit_length())]))
                    one_more = (zero + 1) % n
                    self.assertIsNotNone(sign_with(group, secret, nonce, [one_more << (8 - n.bit_length())]))
                    found["s"] += 1
        self.assertTrue(found["r"] > 0 and found["s"] > 0)

    def test_not_brought_into_the_low_form(self):
        group = group_named("w11")
        signatures = [sign_with(group, 5, nonce, [100]) for nonce in range(1, 17)]
        self.assertTrue(any(s > 8 for _, s in [each for each in signatures if each is not None]))

    def test_big_groups(self):
        for name in ("p256", "secp256k1", "w31"):
            group = group_named(name)
            for secret, nonce in ((1, 1), (group.order - 1, 2), (12345, group.order - 1)):
                for digest in ([], [255] * 64, [9] * 32):
                    expected = signature_of(group, secret, nonce, digest)
                    self.assertEqual(sign_with(group, secret, nonce, digest), expected)

    def test_out_of_range(self):
        for name in ("w11", "p256"):
            group = group_named(name)
            n = group.order
            for wrong in (0, -1, n, n + 1, -n):
                # A look at the arguments behind the wrong one would fail in another way.
                with self.assertRaises(OutOfRange):
                    sign_with(group, wrong, None, None)
                with self.assertRaises(OutOfRange):
                    sign_with(group, 1, wrong, None)
            with self.assertRaises(OutOfRange):
                sign_with(group, 1, 1, [0] * 1025)
            self.assertIsNotNone(sign_with(group, 2, 3, [255] * 1024))


class SignTest(unittest.TestCase):
    def expected(self, group, secret, digest, hasher, extra, low):
        source = NonceSource(group.order, secret, hasher, digest, extra=extra)
        for _ in range(256):
            signature = signature_of(group, secret, source.next_nonce(), digest)
            if signature is not None:
                r, s = signature
                return (r, group.order - s) if low and 2 * s > group.order - 1 else (r, s)
        return None

    def test_published(self):
        group = group_named("p256")
        for (kind, text), signature in PUBLISHED.items():
            hasher = HASHERS[kind]
            digest = hasher.digest(list(text.encode()))
            self.assertEqual(sign(group, SECRET, digest, hasher, low=False), signature)
            r, s = signature
            low = (r, min(s, group.order - s))
            self.assertEqual(sign(group, SECRET, digest, hasher), low)
            self.assertEqual(sign(group, SECRET, digest, hasher, low=True), low)
            self.assertEqual(sign(group, SECRET, digest, hasher, extra=[], low=False), signature)
            for each in (signature, low):
                self.assertIs(accepts(group, PUBLIC, digest, each), True)
                self.assertIs(accepts(group, PUBLIC, digest, each, low=True), each == low)
                # What stands behind the first 256 bits does not count.
                self.assertIs(accepts(group, PUBLIC, digest[:32] + [1], each), True)
                self.assertIs(accepts(group, PUBLIC, [digest[0] ^ 1] + digest[1:], each), False)
                self.assertIs(accepts(group, group.negate(PUBLIC), digest, each), False)

    def test_small_groups(self):
        for name in ("w11", "w23", "w43", "w251"):
            group = group_named(name)
            for secret, byte in itertools.product((1, 2, group.order // 2, group.order - 1), range(0, 256, 45)):
                for kind, extra, low in (("sha256", (), True), ("sha512", [1, 2], False), ("sha256", [0], False)):
                    hasher, digest = HASHERS[kind], [byte, 3]
                    signature = sign(group, secret, digest, hasher, extra=extra, low=low)
                    self.assertEqual(signature, self.expected(group, secret, digest, hasher, extra, low))
                    self.assertIs(type(signature), tuple)
                    public = public_key(group, secret)
                    self.assertIs(accepts(group, public, digest, signature), True)
                    self.assertIs(accepts(group, public, digest, signature, low=low), True)
                    self.assertEqual(sign(group, secret, digest, hasher, extra=extra, low=low), signature)

    def test_nonces_that_give_no_signature_are_passed_over(self):
        group = group_named("w11")
        passed = 0
        for secret, byte in itertools.product(range(1, 17), range(0, 256, 8)):
            source = NonceSource(17, secret, HASHERS["sha256"], [byte])
            if signature_of(group, secret, source.next_nonce(), [byte]) is None:
                expected = self.expected(group, secret, [byte], HASHERS["sha256"], (), True)
                self.assertEqual(sign(group, secret, [byte], HASHERS["sha256"]), expected)
                passed += 1
        self.assertGreater(passed, 5)

    def test_no_nonce_gives_a_signature(self):
        group = made_group(*NO_NONCE)
        self.assertEqual((group.order, group.base[0] % 3), (3, 0))
        for secret, digest in ((1, [0]), (2, [64]), (1, [200])):
            with self.assertRaises(Refused):
                sign(group, secret, digest, HASHERS["sha256"])

    def test_no_nonce_for_one_digest(self):
        # With the order 3 there is one r for both nonces, so s is 0 for both of them or for none.
        group = made_group(*ORDER_THREE)
        r = group.base[0] % 3
        self.assertTrue(group.order == 3 and r != 0)
        for secret in (1, 2):
            for number in range(3):
                digest = [number << 6]
                if (number + r * secret) % 3 == 0:
                    with self.assertRaises(Refused):
                        sign(group, secret, digest, HASHERS["sha512"])
                else:
                    signature = sign(group, secret, digest, HASHERS["sha512"])
                    self.assertIs(accepts(group, public_key(group, secret), digest, signature, low=True), True)

    def test_number_of_nonces_that_are_tried(self):
        group = made_group(*NO_NONCE)

        class Counter(Sha256):
            calls = 0

            def keyed(self, key, data):
                self.calls += 1
                return super().keyed(key, data)

        hasher = Counter()
        with self.assertRaises(Refused):
            sign(group, 1, [0], hasher)
        other = Counter()
        source = NonceSource(3, 1, other, [0])
        for _ in range(256):
            source.next_nonce()
        self.assertEqual(hasher.calls, other.calls)

    def test_out_of_range(self):
        for name in ("w11", "p256"):
            group = group_named(name)
            for wrong in (0, -1, group.order, group.order + 1):
                with self.assertRaises(OutOfRange):
                    sign(group, wrong, None, None)
            with self.assertRaises(OutOfRange):
                sign(group, 1, [0] * 1025, None)
            with self.assertRaises(OutOfRange):
                sign(group, 1, [0], HASHERS["sha256"], extra=[0] * 1025)
            public = public_key(group, 5)
            digest, extra = [7] * 1024, [8] * 1024
            signature = sign(group, 5, digest, HASHERS["sha256"], extra=extra)
            self.assertIs(accepts(group, public, digest, signature), True)

    def test_lists(self):
        group = group_named("w251")
        digest, extra = [1, 2, 3], [4, 5]
        check_lists(self, sign, group, 5, digest, HASHERS["sha256"], extra=extra)
        self.assertEqual(extra, [4, 5])
        check_lists(self, sign_with, group, 5, 6, digest)
        check_lists(self, message_number, group, digest)
        check_lists(self, accepts, group, public_key(group, 5), digest, (3, 4))


class AcceptsTest(unittest.TestCase):
    def test_every_signature_and_key(self):
        for group in (group_named("w11"), made_group(*LESS_THAN_THE_PRIME), made_group(*ORDER_THREE)):
            tables = Tables(group)
            n = group.order
            numbers = range(-1, n + 2)
            accepted = 0
            for public, byte in itertools.product(tables.points, (0, 8, 100, 255)):
                for signature in itertools.product(numbers, repeat=2):
                    for low in (False, True):
                        expected = tables.accepted(public, [byte], signature, low)
                        self.assertIs(accepts(group, public, [byte], signature, low=low), expected)
                        accepted += expected
            self.assertGreater(accepted, 0)

    def test_formula_of_the_point(self):
        # The same with sums of points instead of a table.
        group = group_named("w43")
        p, a, n = group.prime, group.curve.a, group.order
        for secret, r, s in itertools.product((1, 9, 30), range(1, n, 4), range(1, n)):
            public = curve_multiple(p, a, secret, group.base)
            inverse = pow(s, -1, n)
            first = curve_multiple(p, a, number_of(group, [77]) * inverse % n, group.base)
            point = curve_sum(p, a, first, curve_multiple(p, a, r * inverse % n, public))
            expected = point is not None and point[0] % n == r
            self.assertIs(accepts(group, public, [77], (r, s)), expected)

    def test_numbers_out_of_range(self):
        for name in ("w11", "p256"):
            group = group_named(name)
            n = group.order
            public = public_key(group, 5)
            r, s = sign(group, 5, [1, 2], HASHERS["sha256"])
            self.assertIs(accepts(group, public, [1, 2], (r, s)), True)
            for wrong in ((0, s), (r, 0), (0, 0), (n, s), (r, n), (r + n, s), (r, s + n), (r - n, s), (r, s - n)):
                self.assertIs(accepts(group, public, [1, 2], wrong), False)
            for wrong in ((-r, s), (r, -s), (2 ** 600, s), (r, 2 ** 600), (-(2 ** 600), s), (r, -(2 ** 600))):
                self.assertIs(accepts(group, public, [1, 2], wrong), False)

    def test_keys_that_are_no_points(self):
        for name in ("w11", "w251", "p256"):
            group = group_named(name)
            x, y = public_key(group, 5)
            p = group.prime
            signature = sign(group, 5, [1, 2], HASHERS["sha256"])
            for public in (None, (x, (y + 1) % p), (x + p, y), (x, y + p), (x, y - p), (-1, 0), (x, -y)):
                self.assertIs(accepts(group, public, [1, 2], signature), False)
                self.assertIs(accepts(group, public, [1, 2], signature, low=True), False)

    def test_sum_that_is_infinity(self):
        # If e + r * d is 0, the sum is infinity for every s.
        group = group_named("w11")
        for secret, r in itertools.product(range(1, 17), repeat=2):
            e = -r * secret % 17
            for s in range(1, 17):
                self.assertIs(accepts(group, public_key(group, secret), [e << 3], (r, s)), False)

    def test_negative_of_s(self):
        for name in ("w11", "w251", "p256", "secp256k1"):
            group = group_named(name)
            n = group.order
            for secret, byte in ((1, 5), (7, 6), (n - 1, 7)):
                public = public_key(group, secret)
                r, s = sign(group, secret, [byte], HASHERS["sha256"])
                self.assertIs(accepts(group, public, [byte], (r, n - s)), True)
                self.assertIs(accepts(group, public, [byte], (r, n - s), low=True), False)
                self.assertIs(accepts(group, public, [byte], (r, s), low=True), True)

    def test_how_many_s_belong_to_one_r(self):
        for group in (group_named("w11"), group_named("w23"), made_group(*LESS_THAN_THE_PRIME)):
            n, p = group.order, group.prime
            most = 0
            for secret, byte in itertools.product((1, 4, n - 1), (0, 90, 255)):
                public = public_key(group, secret)
                for r in range(1, n):
                    found = [s for s in range(1, n) if accepts(group, public, [byte], (r, s), low=True)]
                    every = [s for s in range(1, n) if accepts(group, public, [byte], (r, s))]
                    self.assertEqual(sorted(found + [n - s for s in found]), every)
                    self.assertLessEqual(len(found), len(range(r, p, n)))
                    most = max(most, len(found))
            self.assertEqual(most, 1 if n > p else 2)

    def test_digests_that_are_too_long(self):
        for name in ("w11", "p256"):
            group = group_named(name)
            for public in (None, group.base, (-1, -1)):
                for signature in ((1, 1), (0, 0), None):
                    with self.assertRaises(OutOfRange):
                        accepts(group, public, [0] * 1025, signature)
                    with self.assertRaises(OutOfRange):
                        accepts(group, public, [0] * 1025, signature, low=True)


class LowFormTest(unittest.TestCase):
    def test_half_of_the_order(self):
        for group in (group_named("w11"), group_named("w23"), group_named("p256"), made_group(*ORDER_THREE)):
            n = group.order
            half = (n - 1) // 2
            numbers = {1, half - 1, half, half + 1, half + 2, n - 1} if n > 1000 else range(1, n)
            for s in numbers:
                if 1 <= s < n:
                    self.assertIs(is_low(group, s), s <= half)
                    self.assertEqual(low_form(group, (1, s)), (1, min(s, n - s)))
                    self.assertIs(type(low_form(group, (1, s))), tuple)

    def test_r_stays(self):
        group = group_named("w11")
        for r in (0, 1, 5, 16, 17, 99):
            self.assertEqual(low_form(group, (r, 16)), (r, 1))
            self.assertEqual(low_form(group, (r, 1)), (r, 1))

    def test_out_of_range(self):
        for name in ("w11", "p256"):
            group = group_named(name)
            n = group.order
            for s in (0, -1, n, n + 1, -n, 2 ** 600):
                with self.assertRaises(OutOfRange):
                    is_low(group, s)
                with self.assertRaises(OutOfRange):
                    low_form(group, (1, s))


class OtherGroupsTest(unittest.TestCase):
    def check_refused(self, group):
        base = group.base
        calls = (
            (message_number, group, [1]), (message_number, group, [0] * 1025), (message_number, group, None),
            (public_key, group, 1), (public_key, group, 0), (public_key, group, None),
            (sign_with, group, 1, 1, [1]), (sign_with, group, 0, 0, [1]), (sign_with, group, None, None, None),
            (sign, group, 1, [1], HASHERS["sha256"]), (sign, group, None, None, None),
            (accepts, group, base, [1], (1, 1)), (accepts, group, None, [1], (0, 0)),
            (accepts, group, None, None, None),
            (is_low, group, 1), (is_low, group, 0), (low_form, group, (1, 1)), (low_form, group, (0, 0)),
        )
        for function, *arguments in calls:
            with self.subTest(function=function.__name__), self.assertRaises(OutOfRange):
                function(*arguments)

    def test_edwards_groups(self):
        for name in EDWARDS:
            self.check_refused(group_named(name))
        group = group_named("e13")
        self.check_refused(EdwardsGroup("one", group.curve, group.base, group.order, 1))

    def test_other_cofactors(self):
        for cofactor in (2, 3, 4, 0, 8):
            p, a, b, base, order = WEIERSTRASS["w11"]
            self.check_refused(Group("other", Curve(p, a, b), base, order, cofactor))

    def test_orders_below_three(self):
        group = made_group(*ORDER_TWO)
        self.assertEqual(group.order, 2)
        self.check_refused(group)
        self.assertEqual(made_group(*ORDER_THREE).order, 3)


if __name__ == "__main__":
    unittest.main()
