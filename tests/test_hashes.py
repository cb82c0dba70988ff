"""Points 97 and 98: curveseal.hashes."""

import hashlib
import hmac
import random
import unittest

from curveseal.digest import Digester
from curveseal.errors import Malformed, OutOfRange
from curveseal.hashes import Sha256, Sha512, key_block, tagged
from lists import check_lists

KINDS = ("sha256", "sha512")
BLOCKS = {"sha256": 64, "sha512": 128}
HASHERS = {"sha256": Sha256, "sha512": Sha512}
LONGEST = 1048576
LONGEST_KEYED = 1048448
LONGEST_TAGGED = 1048512
OTHER_KINDS = ("", "SHA256", "sha-256", "sha512 ", "sha224", "sha384", "md5")
# RFC 4231, the cases 1, 2 and 6: key, message, digests.
PUBLISHED = (
    (
        [11] * 20, b"Hi There",
        "b0344c61d8db38535ca8afceaf0bf12b881dc200c9833da726e9376c2e32cff7",
        "87aa7cdea5ef619d4ff0b4241a1d6cb02379f4e2ce4ec2787ad0b30545e17cde"
        "daa833b7d6b8a702038b274eaea3f4e4be9d914eeb61f1702e696c203a126854",
    ),
    (
        list(b"Jefe"), b"what do ya want for nothing?",
        "5bdcc146bf60754e6a042426089575c75a003f089d2739839dec58b964ec3843",
        "164b7a7bfcf819e2e395fbe73b56e0a387bd64222e831fd610270cd7ea250554"
        "9758bf75c05a994a6d034f65f8f0e6fdcaeab1a34d4a6b4b636e070a38bce737",
    ),
    (
        [170] * 131, b"Test Using Larger Than Block-Size Key - Hash Key First",
        "60e431591ee0b67f0d8a26aacbf5b77f8e0bc6213728c5140546040f0ee37f54",
        "80b24263c7c1a3ebb71493c1dd7be8b49b46d1f41b4aeec1121b013783f8f352"
        "6b56d037e05f2598bd0fd2215d6a1e5295e64f73f63f0aec8b915a985d786598",
    ),
)


def message(length):
    chosen = random.Random(length)
    return [chosen.randrange(256) for _ in range(length)]


def expected(kind, data):
    return list(hashlib.new(kind, bytes(data)).digest())


def expected_keyed(kind, key, data):
    return list(hmac.new(bytes(key), bytes(data), kind).digest())


def expected_tagged(tag, data):
    mark = hashlib.sha256(tag.encode()).digest()
    return list(hashlib.sha256(mark + mark + bytes(data)).digest())


class KeyBlockTest(unittest.TestCase):
    def test_lengths(self):
        for kind in KINDS:
            size = BLOCKS[kind]
            for length in (0, 1, 31, 32, size - 1, size, size + 1, 2 * size, 300):
                key = message(length)
                short = expected(kind, key) if length > size else key
                self.assertEqual(key_block(kind, key), short + [0] * (size - len(short)))

    def test_out_of_range(self):
        for kind in KINDS:
            with self.assertRaises(OutOfRange):
                key_block(kind, [0] * (LONGEST + 1))
        for kind in OTHER_KINDS:
            for key in ([], [0] * 64, None):
                with self.assertRaises(OutOfRange):
                    key_block(kind, key)

    def test_lists(self):
        for kind in KINDS:
            for length in (0, 5, BLOCKS[kind], BLOCKS[kind] + 1):
                check_lists(self, key_block, kind, message(length))


class HasherTest(unittest.TestCase):
    def test_fields(self):
        for made, fields in ((Sha256(), ("sha256", 32, 64)), (Sha512(), ("sha512", 64, 128))):
            self.assertEqual((made.name, made.size, made.block_size), fields)

    def test_digests(self):
        for kind in KINDS:
            hasher = HASHERS[kind]()
            for length in (0, 1, 55, 56, 63, 64, 111, 112, 127, 128, 129, 300):
                data = message(length)
                self.assertEqual(hasher.digest(data), expected(kind, data))
                self.assertEqual(hasher.digest_parts([data]), expected(kind, data))
                self.assertEqual(hasher.digest_parts([data[:7], [], data[7:]]), expected(kind, data))
            self.assertEqual(hasher.digest_parts([]), expected(kind, []))

    def test_digests_out_of_range(self):
        for kind in KINDS:
            hasher = HASHERS[kind]()
            with self.assertRaises(OutOfRange):
                hasher.digest([0] * (LONGEST + 1))
            with self.assertRaises(OutOfRange):
                hasher.digest_parts([[0] * LONGEST, [], [0]])

    def test_published_keyed_digests(self):
        for key, data, small, large in PUBLISHED:
            self.assertEqual(Sha256().keyed(key, list(data)), list(bytes.fromhex(small)))
            self.assertEqual(Sha512().keyed(key, list(data)), list(bytes.fromhex(large)))

    def test_keyed_digests(self):
        for kind in KINDS:
            hasher = HASHERS[kind]()
            size = BLOCKS[kind]
            for length in (0, 1, 20, size - 1, size, size + 1, size + 20, 400):
                for data in ([], [0], message(size - 9), message(size), message(300)):
                    key = message(length)
                    keyed = expected_keyed(kind, key, data)
                    self.assertEqual(hasher.keyed(key, data), keyed)
                    self.assertEqual(hasher.keyed_parts(key, [data]), keyed)
                    self.assertEqual(hasher.keyed_parts(key, [[], data[:3], data[3:], []]), keyed)
            self.assertEqual(hasher.keyed_parts([7], []), expected_keyed(kind, [7], []))

    def test_keyed_digests_out_of_range(self):
        for kind in KINDS:
            hasher = HASHERS[kind]()
            with self.assertRaises(OutOfRange):
                hasher.keyed([1], [0] * (LONGEST_KEYED + 1))
            with self.assertRaises(OutOfRange):
                hasher.keyed([0] * (LONGEST + 1), [1])
            with self.assertRaises(OutOfRange):
                hasher.keyed_parts([1], [[0] * LONGEST_KEYED, [1]])
            with self.assertRaises(OutOfRange):
                hasher.keyed_parts([1], [[0]] * (LONGEST_KEYED + 1))
            with self.assertRaises(OutOfRange):
                hasher.keyed_parts([0] * (LONGEST + 1), [])
            # A look at the message would fail in another way.
            with self.assertRaises(OutOfRange):
                hasher.keyed([0] * (LONGEST + 1), None)

    def test_longest_keyed_message(self):
        for kind in KINDS:
            data = message(1024) * (LONGEST_KEYED // 1024) + message(LONGEST_KEYED % 1024)
            self.assertEqual(len(data), LONGEST_KEYED)
            self.assertEqual(HASHERS[kind]().keyed([5], data), expected_keyed(kind, [5], data))

    def test_pieces(self):
        for kind in KINDS:
            hasher = HASHERS[kind]()
            first, second = hasher.pieces(), hasher.pieces()
            self.assertIs(type(first), Digester)
            self.assertIsNot(first, second)
            first.add([1, 2, 3])
            self.assertEqual((first.length(), second.length()), (3, 0))
            self.assertEqual(first.told(), expected(kind, [1, 2, 3]))
            self.assertEqual(second.told(), expected(kind, []))

    def test_objects_stay_apart(self):
        for kind in KINDS:
            hasher = HASHERS[kind]()
            other = HASHERS[kind]()
            other.name, other.size, other.block_size = "other", 1, 2
            self.assertEqual((hasher.name, hasher.size, hasher.block_size), (kind, *(fields(kind))))
            self.assertEqual(hasher.digest([1]), expected(kind, [1]))

    def test_lists(self):
        for kind in KINDS:
            hasher = HASHERS[kind]()
            check_lists(self, hasher.digest, [1, 2])
            check_lists(self, hasher.digest_parts, [[1, 2], [3]])
            for length in (3, BLOCKS[kind], BLOCKS[kind] + 5):
                check_lists(self, hasher.keyed, message(length), [1, 2])
                check_lists(self, hasher.keyed_parts, message(length), [[1, 2], [3]])


def fields(kind):
    return {"sha256": (32, 64), "sha512": (64, 128)}[kind]


class TaggedTest(unittest.TestCase):
    def test_tags(self):
        for tag in ("a", " ", "~", "BIP0340/challenge", "curveseal/key", "x" * 63, "x" * 64):
            for data in ([], [1, 2, 3], message(64), message(200)):
                self.assertEqual(tagged(tag, data), expected_tagged(tag, data))

    def test_number_of_characters(self):
        for tag in ("", "x" * 65, "x" * 66, "x" * 1000):
            for data in ([], [1], [0] * (LONGEST_TAGGED + 1), None):
                with self.assertRaises(OutOfRange):
                    tagged(tag, data)

    def test_other_characters(self):
        wrong = ["\n", "\t", "\0", "\x1f", "\x7f", "%", "\x80", "\xe4", "\u0100", "\u20ac", "\U0001f511"]
        for character in wrong:
            for tag in (character, "a" + character, character + "a", "x" * 64 + character, character * 100):
                for data in ([], [0] * (LONGEST_TAGGED + 1), None):
                    with self.assertRaises(Malformed):
                        tagged(tag, data)

    def test_every_character(self):
        for code in range(0, 300):
            if 32 <= code <= 126 and code != 37:
                self.assertEqual(tagged(chr(code), [7]), expected_tagged(chr(code), [7]))
            else:
                with self.assertRaises(Malformed):
                    tagged(chr(code), [7])

    def test_long_messages(self):
        for length in (LONGEST_TAGGED + 1, LONGEST + 1):
            with self.assertRaises(OutOfRange):
                tagged("a", [0] * length)
        data = message(512) * (LONGEST_TAGGED // 512)
        data += message(LONGEST_TAGGED - len(data))
        self.assertEqual(tagged("a", data), expected_tagged("a", data))

    def test_lists(self):
        check_lists(self, tagged, "a", [1, 2])


if __name__ == "__main__":
    unittest.main()
