"""Points 150 to 154: curveseal.schemes."""

import hashlib
import itertools
import unittest
from unittest import mock

from curveseal.ecdsa import sign_with
from curveseal.errors import Malformed, OutOfRange, Refused
from curveseal.hashes import Sha256
from curveseal.nonce import NonceSource
from curveseal.schemes import SCHEME_KINDS, Scheme, scheme_named, scheme_names
from lists import check_lists
from reference import EDWARDS, EDWARDS_SIZES, WEIERSTRASS
from signing import (
    big, edwards_form, edwards_plus, edwards_times, little, little_scalar, multiple, plain_eddsa, plain_schnorr,
    plain_seed_parts, schnorr_parts,
)
from tables import NO_NONCE, Tables, made_group, signature_of

WEIERSTRASS_NAMES = ("p256", "secp256k1", "w11", "w23", "w43", "w79", "w251", "w1021", "w65521", "w31")
EDWARDS_NAMES = ("ed25519", "e13", "e29", "e61", "e241", "e1021", "e65521", "e31")
NAMES = (
    [f"ecdsa-{name}" for name in WEIERSTRASS_NAMES] + [f"schnorr-{name}" for name in WEIERSTRASS_NAMES]
    + [f"eddsa-{name}" for name in EDWARDS_NAMES]
)
MESSAGES = ([], [0], [1, 2, 3], [255] * 100)


def compressed(group, point):
    return [2 + point[1] % 2] + big(point[0], group.size)


def tagged_number(number):
    content = big(number, number.bit_length() // 8 + 1)
    return [2, len(content)] + content


def tagged_pair(r, s):
    content = tagged_number(r) + tagged_number(s)
    return [48, len(content)] + content


def numbers_of(group, secret, message):
    """Return the two numbers of point 151, in the low form."""
    digest = list(hashlib.sha256(bytes(message)).digest())
    source = NonceSource(group.order, secret, Sha256(), digest)
    signature = None
    while signature is None:
        signature = signature_of(group, secret, source.next_nonce(), digest)
    r, s = signature
    return r, min(s, group.order - s)


def some_secrets(scheme):
    """Return the least and the greatest secrets of a scheme, and others, without refused ones."""
    if scheme.kind == "eddsa":
        top = 256 ** EDWARDS_SIZES[scheme.group.name] - 1
        found = [0, 1, 7, top // 3, top - 1, top]
        return [secret for secret in found if not is_refused(scheme, secret)]
    n = scheme.group.order
    return [1, 2, 3, n // 2, n - 2, n - 1]


def is_refused(scheme, secret):
    a, _ = plain_seed_parts(scheme.group, little(secret, EDWARDS_SIZES[scheme.group.name]))
    return a % scheme.group.order == 0


def expected_public(scheme, secret):
    group = scheme.group
    if scheme.kind == "ecdsa":
        return compressed(group, multiple(group, secret, group.base))
    if scheme.kind == "schnorr":
        return schnorr_parts(group, secret)[1]
    a, _ = plain_seed_parts(group, little(secret, EDWARDS_SIZES[group.name]))
    return edwards_form(group, edwards_times(group, a, group.base))


def expected_signature(scheme, secret, message):
    if scheme.kind == "ecdsa":
        return tagged_pair(*numbers_of(scheme.group, secret, message))
    if scheme.kind == "schnorr":
        return plain_schnorr(scheme.group, secret, message)
    return plain_eddsa(scheme.group, little(secret, EDWARDS_SIZES[scheme.group.name]), message)


class NamesTest(unittest.TestCase):
    def test_kinds_and_names(self):
        self.assertEqual(SCHEME_KINDS, ("ecdsa", "schnorr", "eddsa"))
        self.assertIs(type(SCHEME_KINDS), tuple)
        self.assertEqual(scheme_names(), NAMES)
        self.assertEqual((NAMES[0], NAMES[-1], len(NAMES)), ("ecdsa-p256", "eddsa-e31", 28))
        check_lists(self, scheme_names)

    def test_fields(self):
        for name in NAMES:
            scheme = scheme_named(name)
            kind, group_name = name.split("-")
            self.assertIs(type(scheme), Scheme)
            self.assertEqual((scheme.name, scheme.kind, scheme.group.name), (name, kind, group_name))
            self.assertEqual(scheme.group.kind, "edwards" if kind == "eddsa" else "weierstrass")

    def test_no_such_scheme(self):
        wrong = ["", "-", "ecdsa", "ecdsa-", "-p256", "p256", "ecdsa-ecdsa", "p256-ecdsa", "other-p256"]
        wrong += [f"eddsa-{name}" for name in WEIERSTRASS_NAMES]
        wrong += [f"{kind}-{name}" for kind in ("ecdsa", "schnorr") for name in EDWARDS_NAMES]
        for name in NAMES:
            wrong += [name.upper(), name + " ", " " + name, name + "\n", name.replace("-", "--"), name[:-1] + "x"]
            wrong += [name.replace("-", ""), name.replace("-", "_"), name + "-", "-" + name, name + ":", name + name]
        for name in wrong:
            with self.subTest(name=name), self.assertRaises(Malformed):
                scheme_named(name)


class PublicTest(unittest.TestCase):
    def test_every_secret_of_small_groups(self):
        for name in ("ecdsa-w11", "ecdsa-w251", "schnorr-w11", "schnorr-w251"):
            scheme = scheme_named(name)
            for secret in range(1, scheme.group.order):
                self.assertEqual(scheme.public(secret), expected_public(scheme, secret))
        for name in ("eddsa-e13", "eddsa-e29", "eddsa-e61"):
            scheme = scheme_named(name)
            refused = 0
            for secret in range(256):
                if is_refused(scheme, secret):
                    with self.assertRaises(Refused):
                        scheme.public(secret)
                    with self.assertRaises(Refused):
                        scheme.sign(secret, [1])
                    # What is wrong with the secret comes before what is wrong with the message.
                    with self.assertRaises(Refused):
                        scheme.sign(secret, [0] * 65537)
                    refused += 1
                else:
                    self.assertEqual(scheme.public(secret), expected_public(scheme, secret))
            self.assertEqual(refused > 0, name != "eddsa-e13")

    def test_all_schemes(self):
        for name in NAMES:
            scheme = scheme_named(name)
            for secret in some_secrets(scheme):
                self.assertEqual(scheme.public(secret), expected_public(scheme, secret))
                check_lists(self, scheme.public, secret)
        self.assertEqual(scheme_named("ecdsa-w11").public(1), [2, 0])

    def test_secrets_out_of_range(self):
        for name in NAMES:
            scheme = scheme_named(name)
            if scheme.kind == "eddsa":
                top = 256 ** EDWARDS_SIZES[scheme.group.name]
                wrong = (-1, -2, top, top + 1, 2 ** 600)
            else:
                n = scheme.group.order
                wrong = (0, -1, n, n + 1, -n, 2 ** 600)
            for secret in wrong:
                with self.assertRaises(OutOfRange):
                    scheme.public(secret)
                with self.assertRaises(OutOfRange):
                    scheme.sign(secret, [1])
                # The message is looked at later: it would fail in another way.
                with self.assertRaises(OutOfRange):
                    scheme.sign(secret, None)


class SignTest(unittest.TestCase):
    def test_all_schemes(self):
        for name in NAMES:
            scheme = scheme_named(name)
            for secret, message in itertools.product(some_secrets(scheme), MESSAGES):
                signature = scheme.sign(secret, message)
                self.assertEqual(signature, expected_signature(scheme, secret, message))
                self.assertIs(scheme.accepts(scheme.public(secret), message, signature), True)
            check_lists(self, scheme.sign, some_secrets(scheme)[0], [1, 2])

    def test_every_secret_of_small_groups(self):
        for name in ("ecdsa-w11", "ecdsa-w43", "schnorr-w11", "eddsa-e13", "eddsa-e29"):
            scheme = scheme_named(name)
            secrets = range(0, 256, 5) if scheme.kind == "eddsa" else range(1, scheme.group.order)
            for secret in secrets:
                if scheme.kind != "eddsa" or not is_refused(scheme, secret):
                    self.assertEqual(scheme.sign(secret, [secret]), expected_signature(scheme, secret, [secret]))

    def test_long_messages(self):
        for name in ("ecdsa-w251", "schnorr-w251", "eddsa-e61"):
            scheme = scheme_named(name)
            message = [7] * 65536
            signature = scheme.sign(3, message)
            self.assertEqual(signature, expected_signature(scheme, 3, message))
            self.assertIs(scheme.accepts(scheme.public(3), message, signature), True)
            for length in (65537, 65538, 100000):
                with self.assertRaises(OutOfRange):
                    scheme.sign(3, [7] * length)

    def test_no_nonce_gives_a_signature(self):
        # No named group is so small, so another group takes its place.
        scheme = scheme_named("ecdsa-w11")
        scheme.group = made_group(*NO_NONCE)
        with self.assertRaises(Refused):
            scheme.sign(1, [1])
        with self.assertRaises(OutOfRange):
            scheme.sign(1, [1] * 65537)

    def test_errors_of_signing_pass(self):
        scheme = scheme_named("ecdsa-p256")
        with mock.patch("curveseal.schemes.sign", side_effect=Refused("no nonce")):
            with self.assertRaises(Refused):
                scheme.sign(1, [1])


class EcdsaAcceptsTest(unittest.TestCase):
    def test_every_key_and_every_pair_of_numbers(self):
        scheme = scheme_named("ecdsa-w11")
        tables = Tables(scheme.group)
        digest = list(hashlib.sha256(bytes([1, 2])).digest())
        for public in tables.points[1::3]:
            for r, s in itertools.product(range(18), repeat=2):
                accepted = scheme.accepts(compressed(scheme.group, public), [1, 2], tagged_pair(r, s))
                self.assertIs(accepted, tables.accepted(public, digest, (r, s), low=True))

    def test_only_the_low_form(self):
        for name in ("ecdsa-p256", "ecdsa-secp256k1", "ecdsa-w31", "ecdsa-w1021"):
            scheme = scheme_named(name)
            public = scheme.public(5)
            for byte in range(6):
                r, s = numbers_of(scheme.group, 5, [byte])
                self.assertLessEqual(2 * s, scheme.group.order)
                self.assertIs(scheme.accepts(public, [byte], tagged_pair(r, s)), True)
                self.assertIs(scheme.accepts(public, [byte], tagged_pair(r, scheme.group.order - s)), False)

    def test_other_forms_of_a_signature(self):
        for name in ("ecdsa-p256", "ecdsa-w251"):
            scheme = scheme_named(name)
            group = scheme.group
            public = scheme.public(5)
            r, s = numbers_of(group, 5, [1])
            good = tagged_pair(r, s)
            content = good[2:]
            longer = [2, group.order_size + 2, 0] + big(r, group.order_size + 1) + tagged_number(s)
            wrong = [
                [], [0], good[:-1], good + [0], good[1:], [49] + good[1:], big(r, group.order_size) * 2,
                big(r, group.order_size) + big(s, group.order_size), [48, 129, len(content)] + content,
                [48, len(longer)] + longer, [48, len(content) + 3] + content + [2, 1, 1],
                tagged_pair(0, s), tagged_pair(r, 0), tagged_pair(r + group.order, s), tagged_pair(r, s + group.order),
            ]
            self.assertIs(scheme.accepts(public, [1], good), True)
            for signature in wrong:
                self.assertIs(scheme.accepts(public, [1], signature), False)

    def test_other_forms_of_a_key(self):
        for name in ("ecdsa-p256", "ecdsa-w251", "ecdsa-w1021"):
            scheme = scheme_named(name)
            group = scheme.group
            x, y = multiple(group, 5, group.base)
            signature = scheme.sign(5, [1])
            good = compressed(group, (x, y))
            self.assertIs(scheme.is_proper(good), True)
            no_point = next(x for x in range(1, 99) if group.lift(x, False) is None)
            wrong = [
                [], [0], [4] + big(x, group.size) + big(y, group.size), big(x, group.size), good + [0], good[:-1],
                [1] + good[1:], [5] + good[1:], [2] + big(no_point, group.size), [2] + big(group.prime, group.size),
            ]
            for public in wrong:
                self.assertIs(scheme.is_proper(public), False)
                self.assertIs(scheme.accepts(public, [1], signature), False)


class SchnorrAcceptsTest(unittest.TestCase):
    def test_keys(self):
        for name in ("schnorr-w11", "schnorr-w251"):
            scheme = scheme_named(name)
            coordinates = {key[0] for key in (scheme.public(secret) for secret in range(1, scheme.group.order))}
            for byte in range(256):
                self.assertIs(scheme.is_proper([byte]), byte in coordinates)
        for name in ("schnorr-secp256k1", "schnorr-p256"):
            scheme = scheme_named(name)
            group = scheme.group
            key, signature = scheme.public(5), scheme.sign(5, [1])
            self.assertIs(scheme.is_proper(key), True)
            for public in ([], [0], key[1:], key + [0], [2] + key, big(group.prime, 32), [255] * 32):
                self.assertIs(scheme.is_proper(public), False)
                self.assertIs(scheme.accepts(public, [1], signature), False)

    def test_signatures(self):
        for name in ("schnorr-secp256k1", "schnorr-p256"):
            scheme = scheme_named(name)
            key, signature = scheme.public(5), scheme.sign(5, [1])
            for wrong in ([], signature[:-1], signature + [0], signature[::-1], signature[32:] + signature[:32]):
                self.assertIs(scheme.accepts(key, [1], wrong), False)
            self.assertIs(scheme.accepts(key, [2], signature), False)
            self.assertIs(scheme.accepts(scheme.public(6), [1], signature), False)


class EddsaAcceptsTest(unittest.TestCase):
    def small_point(self, group):
        return (0, group.prime - 1)

    def test_keys(self):
        for name in EDWARDS_NAMES:
            scheme = scheme_named(f"eddsa-{name}")
            group, size = scheme.group, EDWARDS_SIZES[name]
            mixed = edwards_plus(group, group.base, self.small_point(group))
            for point in (group.base, mixed):
                self.assertIs(scheme.is_proper(edwards_form(group, point)), True)
            for point in ((0, 1), self.small_point(group)):
                self.assertIs(scheme.is_proper(edwards_form(group, point)), False)
            form = edwards_form(group, group.base)
            for public in ([], form[:-1], form + [0], [0] + form, [255] * size, little(group.prime + 1, size)):
                self.assertIs(scheme.is_proper(public), False)
                self.assertIs(scheme.accepts(public, [1], form + [0] * size), False)

    def test_every_key_of_one_byte(self):
        for name in ("e13", "e29", "e61"):
            scheme = scheme_named(f"eddsa-{name}")
            p, a, d, _, _, cofactor = EDWARDS[name]
            points = [
                (x, y) for x in range(p) for y in range(p) if (a * x * x + y * y - 1 - d * x * x * y * y) % p == 0
            ]
            proper = [
                edwards_form(scheme.group, point) for point in points
                if edwards_times(scheme.group, cofactor, point) != (0, 1)
            ]
            self.assertEqual([[byte] for byte in range(256) if scheme.is_proper([byte])], sorted(proper))

    def test_no_signature_under_a_weak_key(self):
        for name in EDWARDS_NAMES:
            scheme = scheme_named(f"eddsa-{name}")
            group, size = scheme.group, EDWARDS_SIZES[name]
            # Here the difference is the neutral point, whatever the message is.
            signature = edwards_form(group, edwards_times(group, 3, group.base)) + little(3, size)
            self.assertIs(scheme.accepts(edwards_form(group, (0, 1)), [1], signature), False)

    def test_only_the_exact_way(self):
        for name in EDWARDS_NAMES:
            scheme = scheme_named(f"eddsa-{name}")
            group, size = scheme.group, EDWARDS_SIZES[name]
            a, _ = plain_seed_parts(group, [3] * size)
            key = edwards_form(group, edwards_times(group, a, group.base))
            for small in ((0, 1), self.small_point(group)):
                first = edwards_form(group, edwards_plus(group, edwards_times(group, 2, group.base), small))
                k = little_scalar(group, first + key + [1])
                signature = first + little((2 + k * a) % group.order, size)
                self.assertIs(scheme.accepts(key, [1], signature), small == (0, 1))

    def test_signatures(self):
        scheme = scheme_named("eddsa-ed25519")
        key, signature = scheme.public(5), scheme.sign(5, [1])
        number = int.from_bytes(bytes(signature[32:]), "little") + scheme.group.order
        wrong = [[], signature[:-1], signature + [0], signature[32:] + signature[:32]]
        wrong.append(signature[:32] + little(number, 32))
        for other in wrong:
            self.assertIs(scheme.accepts(key, [1], other), False)
        self.assertIs(scheme.accepts(key, [2], signature), False)
        self.assertIs(scheme.accepts(scheme.public(6), [1], signature), False)


class AllSchemesTest(unittest.TestCase):
    def test_objects_stay_apart(self):
        first, second = scheme_named("ecdsa-w11"), scheme_named("ecdsa-w11")
        self.assertIsNot(first, second)
        first.name = "other"
        self.assertEqual(second.name, "ecdsa-w11")
        self.assertEqual(scheme_named("ecdsa-w11").name, "ecdsa-w11")

    def test_keys_of_other_schemes(self):
        for first, second in itertools.permutations(("ecdsa-secp256k1", "schnorr-secp256k1", "eddsa-ed25519"), 2):
            one, other = scheme_named(first), scheme_named(second)
            signature = one.sign(7, [1])
            self.assertIs(other.accepts(one.public(7), [1], signature), False)
            self.assertIs(other.accepts(other.public(7), [1], signature), False)

    def test_lists(self):
        for name in ("ecdsa-w251", "schnorr-w251", "eddsa-e61"):
            scheme = scheme_named(name)
            check_lists(self, scheme.accepts, scheme.public(3), [1, 2], scheme.sign(3, [1, 2]))
            check_lists(self, scheme.accepts, [1], [2], [3])
            check_lists(self, scheme.is_proper, scheme.public(3))

    def test_fixed_nonce_is_not_another_one(self):
        # The signature of point 151 has the first nonce of the source that gives one, and no extra bytes.
        scheme = scheme_named("ecdsa-p256")
        digest = list(hashlib.sha256(b"sample").digest())
        nonce = NonceSource(scheme.group.order, 9, Sha256(), digest).next_nonce()
        r, s = sign_with(scheme.group, 9, nonce, digest)
        expected = tagged_pair(r, min(s, scheme.group.order - s))
        self.assertEqual(scheme.sign(9, list(b"sample")), expected)


class WeierstrassNamesTest(unittest.TestCase):
    def test_names_of_this_file(self):
        self.assertEqual(set(WEIERSTRASS_NAMES), set(WEIERSTRASS))
        self.assertEqual(set(EDWARDS_NAMES), set(EDWARDS))


if __name__ == "__main__":
    unittest.main()
