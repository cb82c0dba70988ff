"""Points 120 to 125: curveseal.schnorr."""

import itertools
import unittest

from curveseal.errors import OutOfRange
from curveseal.named import group_named
from curveseal.schnorr import (
    challenge, even_secret, schnorr_accepts, schnorr_key, schnorr_nonce, schnorr_sign,
)
from lists import check_lists
from signing import (
    big, group_of_521_bits, multiple, plain_nonce, plain_schnorr, plain_schnorr_accepts, scalar, schnorr_parts,
    tagged_digest,
)

# BIP 340: secret, key, extra bytes, message, signature.
PUBLISHED = (
    (
        "0000000000000000000000000000000000000000000000000000000000000003",
        "f9308a019258c31049344f85f89d5229b531c845836f99b08601f113bce036f9",
        "00" * 32,
        "00" * 32,
        "e907831f80848d1069a5371b402410364bdf1c5f8307b0084c55f1ce2dca8215"
        "25f66a4a85ea8b71e482a74f382d2ce5ebeee8fdb2172f477df4900d310536c0",
    ),
    (
        "b7e151628aed2a6abf7158809cf4f3c762e7160f38b4da56a784d9045190cfef",
        "dff1d77f2a671c5f36183726db2341be58feae1da2deced843240f7b502ba659",
        "00" * 31 + "01",
        "243f6a8885a308d313198a2e03707344a4093822299f31d0082efa98ec4e6c89",
        "6896bd60eeae296db48a229ff71dfe071bde413e6d43f917dc8dcf8c78de3341"
        "8906d11ac976abccb20b091292bff4ea897efcb639ea871cfa95f6de339e4b0a",
    ),
    (
        "c90fdaa22168c234c4c6628b80dc1cd129024e088a67cc74020bbea63b14e5c9",
        "dd308afec5777e13121fa72b9cc1b7cc0139715309b086c960e18fd969774eb8",
        "c87aa53824b4d7ae2eb035a2b5bbbccc080e76cdc6d1692c4b0b62d798e6d906",
        "7e2d58d8b3bcdf1abadec7829054f90dda9805aab56c77333024b9d0a508b75c",
        "5831aaeed7b44bb74e5eab94ba9d4294c49bcf2a60728d8b4c200f50dd313c1b"
        "ab745879a5ad954a72c45a91c3a51d3c7adea98d82f8481e0e1e03674a6f3fb7",
    ),
    (
        "0b432b2677937381aef05bb02a66ecd012773062cf3fa2549e44f58ed2401710",
        "25d1dff95105f5253c4022f628a996ad3a0d95fbf21d468a1b33f8c160d8f517",
        "ff" * 32,
        "ff" * 32,
        "7eb0509757e246f19449885651611cb965ecc1a187dd51b64fda1edc9637d5ec"
        "97582b9cb13db3933705b32ba982af5af25fd78881ebb32771fc5922efc66ea3",
    ),
    (
        "0340034003400340034003400340034003400340034003400340034003400340",
        "778caa53b4393ac467774d09497a87224bf9fab6f6e68b23086497324d6fd117",
        "00" * 32,
        "",
        "71535db165ecd9fbbc046e5ffaea61186bb6ad436732fccc25291a55895464cf"
        "6069ce26bf03466228f19a3a62db8a649f2d560fac652827d1af0574e427ab63",
    ),
    (
        "0340034003400340034003400340034003400340034003400340034003400340",
        "778caa53b4393ac467774d09497a87224bf9fab6f6e68b23086497324d6fd117",
        "00" * 32,
        "11",
        "08a20a0afef64124649232e0693c583ab1b9934ae63b4c3511f3ae1134c6a303"
        "ea3173bfea6683bd101fa5aa5dbc1996fe7cacfc5a577d33ec14564cec2bacbf",
    ),
)
SMALL = ("w11", "w23", "w43", "w79", "w251", "w1021")
MESSAGES = ([], [0], [1, 2, 3], [255] * 70)


def octets(text):
    return list(bytes.fromhex(text))


class KeyTest(unittest.TestCase):
    def test_every_secret_of_small_groups(self):
        for name in ("w11", "w23", "w43", "w251"):
            group = group_named(name)
            turned = 0
            for secret in range(1, group.order):
                even, key = schnorr_parts(group, secret)
                self.assertEqual(schnorr_key(group, secret), key)
                self.assertEqual(even_secret(group, secret), even)
                x, y = multiple(group, even_secret(group, secret), group.base)
                self.assertEqual((y % 2, big(x, group.size)), (0, key))
                # A secret and its negative have one key.
                self.assertEqual(schnorr_key(group, group.order - secret), key)
                self.assertEqual(even_secret(group, group.order - secret), even)
                turned += even != secret
            self.assertEqual(turned, (group.order - 1) // 2)

    def test_big_groups(self):
        for name in ("p256", "secp256k1", "w31", "w65521"):
            group = group_named(name)
            for secret in (1, 2, 3, 12345, group.order - 1, group.order - 2):
                even, key = schnorr_parts(group, secret)
                self.assertEqual((even_secret(group, secret), schnorr_key(group, secret)), (even, key))

    def test_secrets_out_of_range(self):
        for name in ("w11", "secp256k1"):
            group = group_named(name)
            for secret in (0, -1, group.order, group.order + 1, -group.order, 2 ** 600):
                for function in (schnorr_key, even_secret):
                    with self.assertRaises(OutOfRange):
                        function(group, secret)
                for extra in ((), [1]):
                    with self.assertRaises(OutOfRange):
                        schnorr_sign(group, secret, [1], extra=extra)
                with self.assertRaises(OutOfRange):
                    schnorr_sign(group, secret, [1])

    def test_lists(self):
        check_lists(self, schnorr_key, group_named("w11"), 5)


class NonceTest(unittest.TestCase):
    def test_small_groups(self):
        for name in SMALL:
            group = group_named(name)
            for secret in (1, 2, group.order // 2, group.order - 1):
                for message in MESSAGES:
                    for extra in ([], [7], [1] * 32, [2] * 33, [3] * 1024):
                        expected = plain_nonce(group, secret, message, extra)
                        self.assertEqual(schnorr_nonce(group, secret, message, extra), expected)

    def test_nonce_of_the_secret_and_its_negative(self):
        group = group_named("w251")
        for secret in range(1, 30):
            first = schnorr_nonce(group, secret, [1, 2], [])
            self.assertEqual(schnorr_nonce(group, group.order - secret, [1, 2], []), first)

    def test_digest_that_is_zero(self):
        group = group_named("w11")
        mask = tagged_digest("BIP0340/aux", [])
        zeros = 0
        for secret, byte in itertools.product(range(1, 17), range(40)):
            even, key = schnorr_parts(group, secret)
            if scalar(group, "BIP0340/nonce", [even ^ mask[0]] + key + [byte]) == 0:
                self.assertEqual(schnorr_nonce(group, secret, [byte], []), 1)
                zeros += 1
        self.assertGreater(zeros, 5)

    def test_extra_bytes_beyond_the_mask(self):
        group = group_named("secp256k1")
        found = [schnorr_nonce(group, 5, [1], [9] * length) for length in (0, 1, 31, 32, 33, 34, 64, 1024, 1025)]
        self.assertEqual(len(set(found)), len(found))
        self.assertEqual(found[-2], plain_nonce(group, 5, [1], [9] * 1024))
        # Only the digest of the extra bytes counts, so the last one of many counts, too.
        self.assertNotEqual(schnorr_nonce(group, 5, [1], [9] * 1023 + [8]), found[-2])

    def test_order_size_greater_than_the_mask(self):
        group = group_of_521_bits()
        self.assertEqual((group.order_size, group.size), (66, 66))
        for secret in (1, 2 ** 520, group.order - 1, 3 ** 300):
            for extra in ([], [1] * 66):
                self.assertEqual(schnorr_nonce(group, secret, [5], extra), plain_nonce(group, secret, [5], extra))
                signature = schnorr_sign(group, secret, [5], extra=extra)
                self.assertEqual(signature, plain_schnorr(group, secret, [5], extra))
                self.assertEqual(len(signature), 132)
                self.assertIs(schnorr_accepts(group, schnorr_key(group, secret), [5], signature), True)

    def test_lists(self):
        check_lists(self, schnorr_nonce, group_named("w11"), 5, [1, 2], [3])


class ChallengeTest(unittest.TestCase):
    def test_digest_of_the_joined_parts(self):
        for name in SMALL + ("p256", "secp256k1"):
            group = group_named(name)
            for form, key, message in (([1], [2], []), ([], [], []), ([5] * 32, [6] * 32, [7] * 100)):
                expected = scalar(group, "BIP0340/challenge", form + key + message)
                self.assertEqual(challenge(group, form, key, message), expected)

    def test_digest_that_is_zero(self):
        # Then s times the base is the nonce's point, whatever the key is.
        group = group_named("w11")
        zeros = 0
        for secret, byte in itertools.product(range(1, 17), range(40)):
            key = schnorr_key(group, secret)
            signature = schnorr_sign(group, secret, [byte])
            if challenge(group, signature[:1], key, [byte]) == 0:
                self.assertEqual(multiple(group, signature[1], group.base)[0], signature[0])
                self.assertIs(schnorr_accepts(group, key, [byte], signature), True)
                zeros += 1
        self.assertGreater(zeros, 5)

    def test_lists(self):
        check_lists(self, challenge, group_named("w11"), [1], [2], [3, 4])


class SignTest(unittest.TestCase):
    def test_published(self):
        group = group_named("secp256k1")
        for secret, key, extra, message, signature in PUBLISHED:
            number = int(secret, 16)
            self.assertEqual(schnorr_key(group, number), octets(key))
            self.assertEqual(schnorr_sign(group, number, octets(message), extra=octets(extra)), octets(signature))
            self.assertIs(schnorr_accepts(group, octets(key), octets(message), octets(signature)), True)

    def test_small_groups(self):
        parities = set()
        for name in SMALL:
            group = group_named(name)
            for secret in (1, 2, 3, 7, group.order // 2, group.order - 2, group.order - 1):
                key = schnorr_key(group, secret)
                for message, extra in itertools.product(MESSAGES, ((), [1, 2])):
                    signature = schnorr_sign(group, secret, message, extra=extra)
                    self.assertEqual(signature, plain_schnorr(group, secret, message, extra))
                    self.assertIs(schnorr_accepts(group, key, message, signature), True)
                    nonce = plain_nonce(group, secret, message, extra)
                    parities.add((
                        multiple(group, nonce, group.base)[1] % 2, multiple(group, secret, group.base)[1] % 2,
                    ))
                self.assertEqual(schnorr_sign(group, secret, [1]), schnorr_sign(group, secret, [1], extra=[]))
        # An odd y of the nonce's point and of the key's point, and an even one.
        self.assertEqual(parities, {(0, 0), (0, 1), (1, 0), (1, 1)})

    def test_big_groups(self):
        for name in ("p256", "w31", "w65521"):
            group = group_named(name)
            for secret in (1, 2, 99, group.order - 1):
                signature = schnorr_sign(group, secret, [1, 2, 3], extra=[4])
                self.assertEqual(signature, plain_schnorr(group, secret, [1, 2, 3], [4]))
                self.assertIs(schnorr_accepts(group, schnorr_key(group, secret), [1, 2, 3], signature), True)
                self.assertIs(schnorr_accepts(group, schnorr_key(group, secret), [1, 2, 4], signature), False)

    def test_long_messages(self):
        group = group_named("w251")
        for length in (65535, 65536, 65537):
            message = [length % 256] * length
            signature = schnorr_sign(group, 5, message)
            self.assertEqual(signature, plain_schnorr(group, 5, message))
            self.assertIs(schnorr_accepts(group, schnorr_key(group, 5), message, signature), True)

    def test_lists(self):
        message, extra = [1, 2], [3, 4]
        check_lists(self, schnorr_sign, group_named("w11"), 5, message, extra=extra)
        self.assertEqual(extra, [3, 4])


class AcceptsTest(unittest.TestCase):
    def test_every_signature_of_a_small_group(self):
        group = group_named("w11")
        for key, message in (([0], [1]), ([5], [2, 3])):
            lasts = {}
            for first, last in itertools.product(range(256), repeat=2):
                accepted = schnorr_accepts(group, key, message, [first, last])
                if first < 16 and last < 20:
                    self.assertIs(accepted, plain_schnorr_accepts(group, key, message, [first, last]))
                if accepted:
                    lasts.setdefault(first, []).append(last)
            # For each form of a point there is exactly one last part.
            self.assertEqual(len(lasts), 8)
            self.assertTrue(all(len(found) == 1 and found[0] < 17 for found in lasts.values()))

    def test_every_key_of_a_small_group(self):
        group = group_named("w11")
        signature = schnorr_sign(group, 3, [9, 9])
        accepted = []
        for byte in range(256):
            self.assertIs(
                schnorr_accepts(group, [byte], [9, 9], signature),
                plain_schnorr_accepts(group, [byte], [9, 9], signature),
            )
            if schnorr_accepts(group, [byte], [9, 9], signature):
                accepted.append([byte])
        self.assertIn(schnorr_key(group, 3), accepted)

    def test_other_lengths(self):
        for name in ("w11", "w251", "w1021", "secp256k1"):
            group = group_named(name)
            key = schnorr_key(group, 5)
            signature = schnorr_sign(group, 5, [1])
            wrong = [[], [0], signature[:-1], signature[1:], signature + [0], [0] + signature, signature * 2]
            wrong += [signature[:group.size], signature[group.size:]]
            for other in wrong:
                self.assertIs(schnorr_accepts(group, key, [1], other), False)
            for other in ([], key[:-1], key[1:], key + [0], [0] + key, [2] + key, key * 2):
                self.assertIs(schnorr_accepts(group, other, [1], signature), False)

    def test_numbers_out_of_range(self):
        for name in ("w11", "w251", "w1021", "w31", "secp256k1", "p256"):
            group = group_named(name)
            key = schnorr_key(group, 5)
            for byte in range(6):
                signature = schnorr_sign(group, 5, [byte])
                first, last = signature[:group.size], int.from_bytes(bytes(signature[group.size:]), "big")
                tops = [last + group.order, group.order, 256 ** group.order_size - 1]
                for number in tops:
                    if number < 256 ** group.order_size:
                        other = first + big(number, group.order_size)
                        self.assertIs(schnorr_accepts(group, key, [byte], other), False)
                for x in (int.from_bytes(bytes(first), "big"), int.from_bytes(bytes(key), "big"), 0):
                    if x + group.prime < 256 ** group.size:
                        form = big(x + group.prime, group.size)
                        self.assertIs(schnorr_accepts(group, key, [byte], form + signature[group.size:]), False)
                        self.assertIs(schnorr_accepts(group, form, [byte], signature), False)

    def test_coordinates_of_no_point(self):
        for name in ("secp256k1", "p256", "w1021"):
            group = group_named(name)
            key = schnorr_key(group, 5)
            signature = schnorr_sign(group, 5, [1])
            missing = [x for x in range(1, 40) if group.lift(x, False) is None]
            self.assertGreater(len(missing), 5)
            for x in missing:
                form = big(x, group.size)
                self.assertIs(schnorr_accepts(group, form, [1], signature), False)
                self.assertIs(schnorr_accepts(group, key, [1], form + signature[group.size:]), False)

    def test_published_key_that_is_no_point(self):
        group = group_named("secp256k1")
        key = octets("eefdea4cdb677750a420fee807eacf21eb9898ae79b9768766e4faa04a2d4a34")
        signature = octets(PUBLISHED[1][4])
        self.assertIs(schnorr_accepts(group, key, octets(PUBLISHED[1][3]), signature), False)

    def test_nonce_with_odd_y_is_not_turned(self):
        for name in ("secp256k1", "p256", "w1021", "w65521"):
            group = group_named(name)
            even, key = schnorr_parts(group, 5)
            for nonce in range(1, 9):
                x, y = multiple(group, nonce, group.base)
                form = big(x, group.size)
                s = (nonce + challenge(group, form, key, [1]) * even) % group.order
                signature = form + big(s, group.order_size)
                self.assertIs(schnorr_accepts(group, key, [1], signature), y % 2 == 0)

    def test_one_bit_changed(self):
        for name in ("secp256k1", "p256"):
            group = group_named(name)
            key = schnorr_key(group, 77)
            signature = schnorr_sign(group, 77, [1, 2])
            for at in range(0, 64, 5):
                other = list(signature)
                other[at] ^= 1 << at % 8
                self.assertIs(schnorr_accepts(group, key, [1, 2], other), False)
                if at < 32:
                    wrong = list(key)
                    wrong[at] ^= 1 << at % 8
                    self.assertIs(schnorr_accepts(group, wrong, [1, 2], signature), False)
            for message in ([], [1], [1, 3], [1, 2, 0], [2, 1]):
                self.assertIs(schnorr_accepts(group, key, message, signature), False)

    def test_lists(self):
        group = group_named("w11")
        check_lists(self, schnorr_accepts, group, schnorr_key(group, 5), [1, 2], schnorr_sign(group, 5, [1, 2]))
        check_lists(self, schnorr_accepts, group, [9, 9], [1, 2], [1, 2, 3])


if __name__ == "__main__":
    unittest.main()
