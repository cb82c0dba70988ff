"""Points 135 to 142: curveseal.eddsa."""

import functools
import hashlib
import itertools
import unittest

from curveseal.eddsa import (
    eddsa_accepts, eddsa_difference, eddsa_key, eddsa_sign, is_weak_key, seed_parts, variant_parts,
)
from curveseal.errors import OutOfRange, Refused
from curveseal.named import group_named
from lists import check_lists
from reference import EDWARDS, EDWARDS_SIZES, edwards_points
from signing import (
    edwards_form, edwards_plus, edwards_times, little, little_scalar, plain_eddsa, plain_seed_parts, plain_variant,
    sha512,
)

# RFC 8032, parts 7.1, 7.2 and 7.3: variant, seed, key, message, signature.
PUBLISHED = (
    (
        ("pure",),
        "9d61b19deffd5a60ba844af492ec2cc44449c5697b326919703bac031cae7f60",
        "d75a980182b10ab7d54bfed3c964073a0ee172f3daa62325af021a68f707511a",
        "",
        "e5564300c360ac729086e2cc806e828a84877f1eb8e5d974d873e06522490155"
        "5fb8821590a33bacc61e39701cf9b46bd25bf5f0595bbe24655141438e7a100b",
    ),
    (
        ("pure",),
        "4ccd089b28ff96da9db6c346ec114e0f5b8a319f35aba624da8cf6ed4fb8a6fb",
        "3d4017c3e843895a92b70aa74d1b7ebc9c982ccf2ec4968cc0cd55f12af4660c",
        "72",
        "92a009a9f0d4cab8720e820b5f642540a2b27b5416503f8fb3762223ebdb69da"
        "085ac1e43e15996e458f3613d0f11d8c387b2eaeb4302aeeb00d291612bb0c00",
    ),
    (
        ("pure",),
        "c5aa8df43f9f837bedb7442f31dcb7b166d38535076f094b85ce3a2e0b4458f7",
        "fc51cd8e6218a1a38da47ed00230f0580816ed13ba3303ac5deb911548908025",
        "af82",
        "6291d657deec24024827e69c3abe01a30ce548a284743a445e3680d7db5ac3ac"
        "18ff9b538d16f290ae67f760984dc6594a7c15e9716ed28dc027beceea1ec40a",
    ),
    (
        ("context", [0x66, 0x6f, 0x6f]),
        "0305334e381af78f141cb666f6199f57bc3495335a256a95bd2a55bf546663f6",
        "dfc9425e4f968f7f0c29f0259cf5f9aed6851c2bb4ad8bfb860cfee0ab248292",
        "f726936d19c800494e3fdaff20b276a8",
        "55a4cc2f70a54e04288c5f4cd1e45a7bb520b36292911876cada7323198dd87a"
        "8b36950b95130022907a7fb7c4e9b2d5f6cca685a587b4b21f4b888e4e7edb0d",
    ),
    (
        ("prehashed", []),
        "833fe62409237b9d62ec77587520911e9a759cec1d19755b7da901b96dca3d42",
        "ec172b93ad5e563bf4932c70e1245034c35467ef2efd4d64ebf819683467e2bf",
        "616263",
        "98a70222f0b8121aa9d30f813d683f809e462b469c7ff87639499bb94e6dae41"
        "31f85042463c2a355a2003d062adf5aaa10b8c61e636062aaad11c2a26083406",
    ),
)
VARIANTS = (
    ("pure",), ("context", [0]), ("context", [7] * 255), ("prehashed", []), ("prehashed", [9]),
    ("prehashed", [8] * 255),
)
NO_VARIANTS = (
    (), ("pure", []), ("pure", [1]), ("Pure",), ("",), ("context",), ("prehashed",), ("context", []),
    ("context", [0] * 256), ("prehashed", [0] * 256), ("context", [1], [2]), ("prehashed", [], []), ("other", [1]),
    ["pure"], ["context", [1]], ["prehashed", []], ("context", (1,)), "pure", None,
    ("context", [256]), ("prehashed", [-1]), ("context", None), ("prehashed", None), ("context", "a"), ("", []),
)
MESSAGES = ([], [0], [1, 2, 3], [255] * 200)
SMALL = ("e13", "e29", "e61", "e241", "e1021", "e65521")


def octets(text):
    return list(bytes.fromhex(text))


def seeds(group, count):
    size = EDWARDS_SIZES[group.name]
    return [[(at * 37 + place) % 256 for place in range(size)] for at in range(count)]


@functools.lru_cache
def all_points(name):
    return edwards_points(*EDWARDS[name][:3])


@functools.lru_cache
def all_forms(name):
    """Return the forms of all points of a small group, as tuples, with their points."""
    group = group_named(name)
    return {tuple(edwards_form(group, point)): point for point in all_points(name)}


@functools.lru_cache
def small_points(name):
    """Return the points that the cofactor turns into the neutral point."""
    group = group_named(name)
    if group.prime < 10000:
        return sorted(point for point in all_points(name) if edwards_times(group, group.cofactor, point) == (0, 1))
    # The order turns a point into a small one. The small points are the multiples of one of them.
    for y in range(2, 999):
        start = group.lift(y, False)
        if start is not None:
            points = {edwards_times(group, group.order * k, start) for k in range(group.cofactor)}
            if len(points) == group.cofactor:
                return sorted(points)
    raise AssertionError("there are not enough small points")


def negative(group, point):
    return (-point[0] % group.prime, point[1])


def plain_difference(group, key, message, signature, variant=("pure",)):
    """Return the difference of point 139 over a small group, or None."""
    size = EDWARDS_SIZES[group.name]
    forms = all_forms(group.name)
    first, last = tuple(signature[:size]), int.from_bytes(bytes(signature[size:]), "little")
    if len(signature) != 2 * size or tuple(key) not in forms or first not in forms or last >= group.order:
        return None
    domain, text = plain_variant(variant, message)
    k = little_scalar(group, domain + list(first) + key + text)
    rest = edwards_plus(group, forms[first], edwards_times(group, k, forms[tuple(key)]))
    return edwards_plus(group, edwards_times(group, last, group.base), negative(group, rest))


class SeedTest(unittest.TestCase):
    def test_all_seeds_of_one_byte(self):
        for name in ("e13", "e29", "e61"):
            group = group_named(name)
            weak = 0
            for byte in range(256):
                a, prefix = plain_seed_parts(group, [byte])
                self.assertEqual(seed_parts(group, [byte]), (a, prefix))
                self.assertEqual((len(prefix), a % group.cofactor), (32, 0))
                bits = group.prime.bit_length() - 1
                self.assertTrue(2 ** bits <= a < 2 ** (bits + 1))
                key = edwards_form(group, edwards_times(group, a, group.base))
                self.assertEqual(eddsa_key(group, [byte]), key)
                if a % group.order == 0:
                    self.assertEqual(key, edwards_form(group, (0, 1)))
                    weak += 1
            # Over e13 the secret scalar is 8 or 12, which the order 5 does not divide.
            self.assertEqual(weak > 0, name != "e13")

    def test_other_groups(self):
        for name in ("e241", "e1021", "e65521", "e31", "ed25519"):
            group = group_named(name)
            for seed in seeds(group, 8) + [[0] * EDWARDS_SIZES[name], [255] * EDWARDS_SIZES[name]]:
                a, prefix = plain_seed_parts(group, seed)
                found = seed_parts(group, seed)
                self.assertEqual(found, (a, prefix))
                self.assertIs(type(found), tuple)
                self.assertEqual(eddsa_key(group, seed), edwards_form(group, edwards_times(group, a, group.base)))

    def test_bits_of_ed25519(self):
        group = group_named("ed25519")
        for seed in seeds(group, 4):
            parts = sha512(seed)
            parts[0] &= 248
            parts[31] = parts[31] & 63 | 64
            self.assertEqual(seed_parts(group, seed)[0], int.from_bytes(bytes(parts[:32]), "little"))

    def test_other_lengths(self):
        for name, size in EDWARDS_SIZES.items():
            group = group_named(name)
            for length in (0, size - 1, size + 1, 2 * size, 64):
                if length != size:
                    for call in (
                        lambda seed: seed_parts(group, seed), lambda seed: eddsa_key(group, seed),
                        lambda seed: eddsa_sign(group, seed, [1]),
                        lambda seed: eddsa_sign(group, seed, [1], variant=("other",)),
                    ):
                        with self.assertRaises(OutOfRange):
                            call([0] * length)

    def test_lists(self):
        group = group_named("e61")
        check_lists(self, seed_parts, group, [5])
        check_lists(self, eddsa_key, group, [5])
        found = seed_parts(group, [5])
        found[1].append(0)
        self.assertEqual(len(seed_parts(group, [5])[1]), 32)


class VariantTest(unittest.TestCase):
    def test_domain_and_text(self):
        for variant, message in itertools.product(VARIANTS, MESSAGES):
            found = variant_parts(variant, message)
            self.assertEqual(found, tuple(plain_variant(variant, message)))
            self.assertIs(type(found), tuple)
        self.assertEqual(variant_parts(("pure",), [1, 2]), ([], [1, 2]))
        self.assertEqual(variant_parts(("context", [5]), [1])[0][-3:], [0, 1, 5])
        self.assertEqual(variant_parts(("prehashed", []), [1])[0][-2:], [1, 0])
        self.assertEqual(variant_parts(("prehashed", []), [1])[1], list(hashlib.sha512(b"\1").digest()))

    def test_every_length(self):
        for length in range(260):
            for kind, least in (("context", 1), ("prehashed", 0)):
                if least <= length <= 255:
                    domain, _ = variant_parts((kind, [3] * length), [])
                    self.assertEqual(domain[32:], [1 - least, length] + [3] * length)
                else:
                    with self.assertRaises(Refused):
                        variant_parts((kind, [3] * length), [])

    def test_no_variants(self):
        group = group_named("e61")
        key = eddsa_key(group, [5])
        for variant in NO_VARIANTS:
            for call in (
                lambda: variant_parts(variant, [1]), lambda: eddsa_sign(group, [5], [1], variant=variant),
                lambda: eddsa_difference(group, key, [1], [0, 0], variant=variant),
                lambda: eddsa_accepts(group, key, [1], [0, 0], variant=variant),
                # The same if the key and the signature are not readable.
                lambda: eddsa_difference(group, [], [1], [], variant=variant),
                lambda: eddsa_accepts(group, [], [1], [], variant=variant),
                lambda: eddsa_accepts(group, [], [1], [], cofactored=False, variant=variant),
            ):
                with self.assertRaises(Refused):
                    call()

    def test_lists(self):
        for variant in VARIANTS:
            message = [1, 2]
            kept = [list(part) if isinstance(part, list) else part for part in variant]
            domain, text = variant_parts(variant, message)
            self.assertEqual((message, list(variant)), ([1, 2], kept))
            for found in (domain, text):
                found.append(5)
            self.assertEqual((message, list(variant)), ([1, 2], kept))
            self.assertEqual(variant_parts(variant, message), tuple(plain_variant(variant, message)))


class SignTest(unittest.TestCase):
    def test_published(self):
        group = group_named("ed25519")
        for variant, seed, key, message, signature in PUBLISHED:
            self.assertEqual(eddsa_key(group, octets(seed)), octets(key))
            found = eddsa_sign(group, octets(seed), octets(message), variant=variant)
            self.assertEqual(found, octets(signature))
            for other in VARIANTS + (variant,):
                for cofactored in (True, False):
                    accepted = eddsa_accepts(
                        group, octets(key), octets(message), found, cofactored=cofactored, variant=other
                    )
                    self.assertIs(accepted, other == variant)

    def test_all_groups(self):
        for name in SMALL + ("e31",):
            group = group_named(name)
            for seed, variant, message in itertools.product(seeds(group, 4), VARIANTS, MESSAGES):
                key = eddsa_key(group, seed)
                signature = eddsa_sign(group, seed, message, variant=variant)
                self.assertEqual(signature, plain_eddsa(group, seed, message, variant))
                self.assertEqual(len(signature), 2 * EDWARDS_SIZES[name])
                self.assertEqual(eddsa_difference(group, key, message, signature, variant=variant), (0, 1))
                for cofactored in (True, False):
                    self.assertIs(
                        eddsa_accepts(group, key, message, signature, cofactored=cofactored, variant=variant), True
                    )
            self.assertEqual(
                eddsa_sign(group, seeds(group, 1)[0], [1]),
                eddsa_sign(group, seeds(group, 1)[0], [1], variant=("pure",)),
            )

    def test_every_seed_of_a_small_group(self):
        group = group_named("e29")
        neutral = 0
        for byte in range(256):
            signature = eddsa_sign(group, [byte], [4])
            self.assertEqual(signature, plain_eddsa(group, [byte], [4]))
            key = eddsa_key(group, [byte])
            neutral += key == [1]
            for cofactored in (True, False):
                self.assertIs(eddsa_accepts(group, key, [4], signature, cofactored=cofactored), True)
        self.assertGreater(neutral, 0)

    def test_long_messages(self):
        group = group_named("e241")
        for length in (65536, 65537):
            for variant in (("pure",), ("prehashed", [1])):
                signature = eddsa_sign(group, [1, 2], [3] * length, variant=variant)
                self.assertEqual(signature, plain_eddsa(group, [1, 2], [3] * length, variant))
                key = eddsa_key(group, [1, 2])
                self.assertIs(eddsa_accepts(group, key, [3] * length, signature, variant=variant), True)

    def test_lists(self):
        group = group_named("e61")
        for variant in VARIANTS:
            check_lists(self, eddsa_sign, group, [5], [1, 2], variant=variant)
            check_lists(self, eddsa_difference, group, eddsa_key(group, [5]), [1, 2], [1, 2], variant=variant)
            check_lists(self, eddsa_accepts, group, eddsa_key(group, [5]), [1, 2], [1, 2], variant=variant)


class DifferenceTest(unittest.TestCase):
    def check(self, group, key, message, signature, variant=("pure",)):
        """Check the difference and both ways, and return in which ways the signature is accepted."""
        difference = plain_difference(group, key, message, signature, variant)
        self.assertEqual(eddsa_difference(group, key, message, signature, variant=variant), difference)
        exact = difference == (0, 1)
        cofactored = difference is not None and edwards_times(group, group.cofactor, difference) == (0, 1)
        self.assertIs(
            eddsa_accepts(group, key, message, signature, cofactored=False, variant=variant), exact
        )
        self.assertIs(
            eddsa_accepts(group, key, message, signature, cofactored=True, variant=variant), cofactored
        )
        return exact, cofactored

    def test_every_signature_of_a_small_group(self):
        group = group_named("e13")
        for key in (eddsa_key(group, [1]), edwards_form(group, (0, 12)), edwards_form(group, all_points("e13")[7])):
            counts = {(False, False): 0, (True, True): 0, (False, True): 0}
            lasts = {}
            for form in all_forms("e13"):
                for last in range(8):
                    answer = self.check(group, key, [3], list(form) + [last])
                    counts[answer] += 1
                    if answer[0]:
                        lasts.setdefault(form, []).append(last)
            self.assertGreater(counts[(False, True)], 0)
            # For a first half there is at most one last half that the exact way accepts.
            self.assertTrue(all(len(found) == 1 for found in lasts.values()))

    def test_every_first_half_and_every_key(self):
        for name in ("e13", "e61"):
            group = group_named(name)
            key = eddsa_key(group, [1])
            signature = eddsa_sign(group, [1], [3])
            for byte in range(256):
                self.check(group, key, [3], [byte, signature[1]])
                self.check(group, [byte], [3], signature)
                self.check(group, key, [3], [signature[0], byte])

    def test_keys_with_a_small_part(self):
        only_cofactored = 0
        for name in ("e13", "e29", "e61", "e241"):
            group = group_named(name)
            for point, byte in itertools.product(all_points(name)[::5], range(3)):
                key = edwards_form(group, point)
                for variant in VARIANTS[:4]:
                    signature = plain_eddsa(group, [byte + 1] * EDWARDS_SIZES[name], [byte], variant)
                    self.check(group, key, [byte], signature, variant)
                # A signature by the part of the prime order that hides behind the small part.
                for small in small_points(name):
                    a, _ = plain_seed_parts(group, [byte] * EDWARDS_SIZES[name])
                    mixed = edwards_form(group, edwards_plus(group, edwards_times(group, a, group.base), small))
                    first = edwards_form(group, edwards_times(group, 2, group.base))
                    k = little_scalar(group, first + mixed + [byte])
                    last = little((2 + k * a) % group.order, EDWARDS_SIZES[name])
                    exact, cofactored = self.check(group, mixed, [byte], first + last)
                    self.assertIs(cofactored, True)
                    self.assertIs(exact, edwards_times(group, k, small) == (0, 1))
                    only_cofactored += not exact
        self.assertGreater(only_cofactored, 20)

    def test_small_part_of_the_nonce(self):
        for name in ("e29", "e1021", "ed25519"):
            group = group_named(name)
            size = EDWARDS_SIZES[name]
            seed = [6] * size
            a, _ = plain_seed_parts(group, seed)
            key = eddsa_key(group, seed)
            for small in small_points(name):
                point = edwards_plus(group, edwards_times(group, 9, group.base), small)
                first = edwards_form(group, point)
                k = little_scalar(group, first + key + [1])
                signature = first + little((9 + k * a) % group.order, size)
                self.assertEqual(eddsa_difference(group, key, [1], signature), negative(group, small))
                self.assertIs(eddsa_accepts(group, key, [1], signature), True)
                self.assertIs(eddsa_accepts(group, key, [1], signature, cofactored=True), True)
                self.assertIs(eddsa_accepts(group, key, [1], signature, cofactored=False), small == (0, 1))

    def test_other_nonce_with_the_same_multiple(self):
        # Point 141: the challenge changes with the bytes of the nonce's point.
        for name in ("ed25519", "e65521"):
            group = group_named(name)
            size = EDWARDS_SIZES[name]
            seed = [5] * size
            key, signature = eddsa_key(group, seed), eddsa_sign(group, seed, [1, 2])
            a, prefix = plain_seed_parts(group, seed)
            point = edwards_times(group, little_scalar(group, prefix + [1, 2]), group.base)
            self.assertEqual(edwards_form(group, point), signature[:size])
            for small in small_points(name):
                if small != (0, 1):
                    other = edwards_form(group, edwards_plus(group, point, small)) + signature[size:]
                    self.assertIs(eddsa_accepts(group, key, [1, 2], other), False)

    def test_not_readable(self):
        for name in EDWARDS:
            group = group_named(name)
            size = EDWARDS_SIZES[name]
            seed = [3] * size
            key, signature = eddsa_key(group, seed), eddsa_sign(group, seed, [1])
            first, last = signature[:size], signature[size:]
            number = int.from_bytes(bytes(last), "little")
            no_point = next(y for y in range(2, 99) if group.lift(y, False) is None)
            bad_forms = [
                little(no_point, size), little(group.prime, size), little(group.prime + 1, size), [255] * size,
                [1] + [0] * (size - 2) + [128] if size > 1 else [129],
            ]
            wrong = [
                (key, []), (key, first), (key, signature[:-1]), (key, signature + [0]), (key, [0] + signature),
                (key, first + little(group.order, size)), (key, first + [255] * size), ([], signature),
                (key[:-1], signature), (key + [0], signature),
            ]
            if number + group.order < 256 ** size:
                wrong.append((key, first + little(number + group.order, size)))
            wrong += [(form, signature) for form in bad_forms] + [(key, form + last) for form in bad_forms]
            for other, data in wrong:
                self.assertIsNone(eddsa_difference(group, other, [1], data))
                self.assertIs(eddsa_accepts(group, other, [1], data), False)
                self.assertIs(eddsa_accepts(group, other, [1], data, cofactored=False), False)

    def test_changes_of_a_big_signature(self):
        group = group_named("ed25519")
        key, signature = eddsa_key(group, [5] * 32), eddsa_sign(group, [5] * 32, [1, 2])
        for at in range(0, 64, 7):
            other = list(signature)
            other[at] ^= 1 << at % 8
            for cofactored in (True, False):
                self.assertIs(eddsa_accepts(group, key, [1, 2], other, cofactored=cofactored), False)
        for message in ([], [1], [1, 2, 0], [2, 1]):
            self.assertIs(eddsa_accepts(group, key, message, signature), False)
        self.assertIs(eddsa_accepts(group, eddsa_key(group, [6] * 32), [1, 2], signature), False)


class WeakKeyTest(unittest.TestCase):
    def test_every_byte(self):
        for name in ("e13", "e29", "e61"):
            group = group_named(name)
            weak = {tuple(edwards_form(group, point)) for point in small_points(name)}
            self.assertEqual(len(weak), group.cofactor)
            for byte in range(256):
                self.assertIs(is_weak_key(group, [byte]), (byte,) in weak)

    def test_all_points(self):
        for name in ("e241", "e1021"):
            group = group_named(name)
            weak = small_points(name)
            self.assertEqual(len(weak), group.cofactor)
            points = all_points(name) if name == "e241" else all_points(name)[::9] + weak
            for point in points:
                self.assertIs(is_weak_key(group, edwards_form(group, point)), point in weak)

    def test_ed25519(self):
        group = group_named("ed25519")
        points = small_points("ed25519")
        self.assertEqual(len(points), 8)
        for point in points:
            self.assertIs(is_weak_key(group, edwards_form(group, point)), True)
            mixed = edwards_plus(group, point, group.base)
            self.assertIs(is_weak_key(group, edwards_form(group, mixed)), False)
        for seed in seeds(group, 3):
            self.assertIs(is_weak_key(group, eddsa_key(group, seed)), False)

    def test_what_is_no_form(self):
        for name in EDWARDS:
            group = group_named(name)
            size = EDWARDS_SIZES[name]
            for data in ([], [1] + [0] * size, [0] * (size - 1), little(group.prime + 1, size), [255] * size):
                if data != [1]:
                    self.assertIs(is_weak_key(group, data), False)
            self.assertIs(is_weak_key(group, [1] + [0] * (size - 1)), True)
        check_lists(self, is_weak_key, group_named("e61"), [1])

    def test_signatures_under_weak_keys(self):
        for name in ("e13", "e29", "ed25519"):
            group = group_named(name)
            size = EDWARDS_SIZES[name]
            for point, small in itertools.product(small_points(name), repeat=2):
                key = edwards_form(group, point)
                first = edwards_form(group, edwards_plus(group, edwards_times(group, 3, group.base), small))
                signature = first + little(3, size)
                for message in ([], [1], [2, 3]):
                    self.assertIs(eddsa_accepts(group, key, message, signature), True)
                    k = little_scalar(group, first + key + message)
                    exact = edwards_plus(group, small, edwards_times(group, k, point)) == (0, 1)
                    self.assertIs(eddsa_accepts(group, key, message, signature, cofactored=False), exact)
                other = first + little(4, size)
                self.assertIs(eddsa_accepts(group, key, [1], other), False)

    def test_seed_whose_scalar_is_a_multiple_of_the_order(self):
        group = group_named("e29")
        seed = next([byte] for byte in range(256) if plain_seed_parts(group, [byte])[0] % 7 == 0)
        key = eddsa_key(group, seed)
        self.assertEqual(key, [1])
        self.assertIs(is_weak_key(group, key), True)
        signature = eddsa_sign(group, seed, [7])
        self.assertIs(eddsa_accepts(group, key, [7], signature, cofactored=False), True)
        # It is accepted for every message.
        self.assertIs(eddsa_accepts(group, key, [8], signature, cofactored=False), True)


if __name__ == "__main__":
    unittest.main()
