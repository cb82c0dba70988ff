"""Points 90, 95 and 96: curveseal.digest."""

import hashlib
import random
import unittest

from curveseal.digest import Digester, digest, digest_parts, padding
from curveseal.errors import OutOfRange
from lists import check_lists

KINDS = ("sha256", "sha512")
BLOCKS = {"sha256": 64, "sha512": 128}
TAILS = {"sha256": 8, "sha512": 16}
LONGEST = 1048576
OTHER_KINDS = ("", "SHA256", "sha-256", "sha256 ", "sha224", "sha384", "md5")
# As FIPS 180-4 and its examples have them.
PUBLISHED = {
    ("sha256", ""): "e3b0c44298fc1c149afbf4c8996fb92427ae41e4649b934ca495991b7852b855",
    ("sha256", "abc"): "ba7816bf8f01cfea414140de5dae2223b00361a396177a9cb410ff61f20015ad",
    ("sha256", "abcdbcdecdefdefgefghfghighijhijkijkljklmklmnlmnomnopnopq"):
        "248d6a61d20638b8e5c026930c3e6039a33ce45964ff2167f6ecedd419db06c1",
    ("sha512", ""):
        "cf83e1357eefb8bdf1542850d66d8007d620e4050b5715dc83f4a921d36ce9ce"
        "47d0d13c5d85f2b0ff8318d2877eec2f63b931bd47417a81a538327af927da3e",
    ("sha512", "abc"):
        "ddaf35a193617abacc417349ae20413112e6fa4e89a97ea20a9eeee64b55d39a"
        "2192992a274fc1a836ba3c23a3feebbd454d4423643ce80e2a9ac94fa54ca49f",
}


def expected(kind, data):
    return list(hashlib.new(kind, bytes(data)).digest())


def message(length):
    chosen = random.Random(length)
    return [chosen.randrange(256) for _ in range(length)]


def edge_lengths(kind):
    """Return lengths near the end of a block, and of the last block that holds the padding."""
    size = BLOCKS[kind]
    return sorted({abs(times * size + shift) for times in range(4) for shift in range(-18, 3)})


class PaddingTest(unittest.TestCase):
    def test_rule(self):
        for kind in KINDS:
            lengths = edge_lengths(kind) + [1000, 65535, LONGEST - 128, LONGEST - 20, LONGEST - 1, LONGEST]
            for length in lengths:
                data = padding(kind, length)
                tail = TAILS[kind]
                self.assertEqual(data[0], 128)
                self.assertEqual(set(data[1:-tail]) | {0}, {0})
                self.assertEqual(data[-tail:], list((8 * length).to_bytes(tail, "big")))
                self.assertEqual((length + len(data)) % BLOCKS[kind], 0)
                self.assertTrue(1 + tail <= len(data) < 1 + tail + BLOCKS[kind])

    def test_written_out(self):
        self.assertEqual(padding("sha256", 0), [128] + [0] * 63)
        self.assertEqual(padding("sha512", 0), [128] + [0] * 127)
        self.assertEqual(padding("sha256", 55), [128] + [0] * 6 + [1, 184])
        self.assertEqual(padding("sha256", 56), [128] + [0] * 69 + [1, 192])
        self.assertEqual(padding("sha256", 63), [128] + [0] * 62 + [1, 248])
        self.assertEqual(padding("sha512", 111), [128] + [0] * 14 + [3, 120])
        self.assertEqual(len(padding("sha512", 112)), 144)
        self.assertEqual(padding("sha256", LONGEST), [128] + [0] * 59 + [0, 128, 0, 0])
        self.assertEqual(padding("sha512", LONGEST), [128] + [0] * 123 + [0, 128, 0, 0])

    def test_out_of_range(self):
        for kind in KINDS:
            for length in (-1, -64, LONGEST + 1, LONGEST + 64, 2 ** 64):
                with self.assertRaises(OutOfRange):
                    padding(kind, length)
        for kind in OTHER_KINDS:
            for length in (0, 5, -1, None):
                with self.assertRaises(OutOfRange):
                    padding(kind, length)

    def test_lists(self):
        for kind in KINDS:
            check_lists(self, padding, kind, 5)


class DigestTest(unittest.TestCase):
    def test_published(self):
        for (kind, text), digits in PUBLISHED.items():
            self.assertEqual(digest(kind, list(text.encode())), list(bytes.fromhex(digits)))

    def test_examples(self):
        self.assertEqual(digest("sha256", [1, 2, 3])[:4], [3, 144, 88, 198])
        self.assertEqual(digest("sha512", [1, 2, 3])[:4], [39, 134, 76, 197])

    def test_lengths(self):
        for kind in KINDS:
            for length in edge_lengths(kind) + [5 * BLOCKS[kind], 1000]:
                self.assertEqual(digest(kind, message(length)), expected(kind, message(length)))

    def test_longest_message(self):
        for kind in KINDS:
            data = message(1024) * 1024
            self.assertEqual(digest(kind, data), expected(kind, data))

    def test_out_of_range(self):
        for kind in KINDS:
            for length in (LONGEST + 1, LONGEST + 64):
                with self.assertRaises(OutOfRange):
                    digest(kind, [0] * length)
            longest = [0] * LONGEST
            for parts in ([longest + [0]], [longest, [1]], [[1]] * (LONGEST + 1), [[], longest, [], [1]]):
                with self.assertRaises(OutOfRange):
                    digest_parts(kind, parts)
        for kind in OTHER_KINDS:
            for data in ([], [1], [0] * (LONGEST + 1), None):
                with self.assertRaises(OutOfRange):
                    digest(kind, data)
                with self.assertRaises(OutOfRange):
                    digest_parts(kind, None if data is None else [data])

    def test_parts(self):
        for kind in KINDS:
            size = BLOCKS[kind]
            for lengths in (
                [], [0], [0, 0], [1], [1, 2, 3], [size, size], [0, size - 1, 0, 2, 0], [size + 1] * 3, [1] * 70,
            ):
                parts = [message(length) for length in lengths]
                self.assertEqual(digest_parts(kind, parts), expected(kind, sum(parts, [])))

    def test_lists(self):
        for kind in KINDS:
            for length in (0, 3, 64, 128, 200):
                check_lists(self, digest, kind, message(length))
            check_lists(self, digest_parts, kind, [[1, 2], [], [3]])


class DigesterTest(unittest.TestCase):
    def test_pieces(self):
        for kind in KINDS:
            size = BLOCKS[kind]
            for lengths in (
                [0], [1, 1, 1], [size], [size - 1, 1], [size - 1, 2], [size + 1, 0, size - 1], [3 * size, 5], [0, 0, 7],
                [size // 2] * 5, [1] * (size + 3), [5 * size - 9, 20, 3],
            ):
                digester = Digester(kind)
                whole = []
                for length in lengths:
                    piece = message(length)
                    self.assertIsNone(digester.add(piece))
                    whole += piece
                    self.assertEqual(digester.length(), len(whole))
                self.assertEqual(digester.told(), expected(kind, whole))

    def test_asking_in_the_middle(self):
        for kind in KINDS:
            digester = Digester(kind)
            whole = []
            self.assertEqual(digester.length(), 0)
            self.assertEqual(digester.told(), expected(kind, []))
            for length in (0, 1, 54, 1, 1, 7, 64, 0, 128, 300, 2):
                piece = message(length)
                digester.add(piece)
                whole += piece
                for _ in range(2):
                    self.assertEqual(digester.told(), expected(kind, whole))
                self.assertEqual(digester.length(), len(whole))

    def test_twin_goes_on_in_another_way(self):
        for kind in KINDS:
            for before in (0, 5, 63, 64, 130):
                first = Digester(kind)
                first.add(message(before))
                second = first.twin()
                self.assertIs(type(second), Digester)
                self.assertEqual(second.length(), before)
                self.assertEqual(second.told(), first.told())
                first.add([1, 2, 3])
                self.assertEqual(second.told(), expected(kind, message(before)))
                second.add([4] * 200)
                third = second.twin()
                third.add([5])
                self.assertEqual(first.told(), expected(kind, message(before) + [1, 2, 3]))
                self.assertEqual(second.told(), expected(kind, message(before) + [4] * 200))
                self.assertEqual(third.told(), expected(kind, message(before) + [4] * 200 + [5]))
                self.assertEqual((first.length(), second.length()), (before + 3, before + 200))

    def test_bound_on_all_pieces(self):
        for kind in KINDS:
            digester = Digester(kind)
            with self.assertRaises(OutOfRange):
                digester.add([0] * (LONGEST + 1))
            self.assertEqual((digester.length(), digester.told()), (0, expected(kind, [])))
            data = message(1024) * 1024
            digester.add(data[:70])
            digester.add(data[70:-50])
            before = digester.told()
            for wrong in ([0] * 51, [0] * 1000, [0] * LONGEST):
                with self.assertRaises(OutOfRange):
                    digester.add(wrong)
                self.assertEqual(digester.length(), LONGEST - 50)
                self.assertEqual(digester.told(), before)
            twin = digester.twin()
            digester.add(data[-50:])
            digester.add([])
            self.assertEqual(digester.length(), LONGEST)
            for each in (digester, twin):
                with self.assertRaises(OutOfRange):
                    each.add([0] * (LONGEST + 1 - each.length()))
            self.assertEqual(digester.told(), expected(kind, data))
            self.assertEqual(twin.told(), before)

    def test_other_kinds(self):
        for kind in OTHER_KINDS:
            with self.assertRaises(OutOfRange):
                Digester(kind)

    def test_lists_stay_apart(self):
        for kind in KINDS:
            digester = Digester(kind)
            piece = [1, 2, 3]
            digester.add(piece)
            self.assertEqual(piece, [1, 2, 3])
            piece[0] = 9
            piece.append(4)
            found = digester.told()
            self.assertEqual(found, expected(kind, [1, 2, 3]))
            found[0] ^= 1
            found.append(0)
            self.assertEqual(digester.told(), expected(kind, [1, 2, 3]))


if __name__ == "__main__":
    unittest.main()
