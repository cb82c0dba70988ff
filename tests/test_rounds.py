"""Points 90 to 94: curveseal.rounds."""

import hashlib
import itertools
import random
import unittest

from curveseal.errors import OutOfRange
from curveseal.rounds import (
    block_size, choose, compress, digest_size, majority, mixed_word, round_constants, schedule, start_words,
)
from lists import check_lists

KINDS = ("sha256", "sha512")
BITS = {"sha256": 32, "sha512": 64}
ROUNDS = {"sha256": 64, "sha512": 80}
BLOCKS = {"sha256": 64, "sha512": 128}
NAMES = ("sum_zero", "sum_one", "turn_zero", "turn_one")
MIXES = {
    "sha256": {
        "sum_zero": (2, 13, 22), "sum_one": (6, 11, 25), "turn_zero": (7, 18, 3), "turn_one": (17, 19, 10),
    },
    "sha512": {
        "sum_zero": (28, 34, 39), "sum_one": (14, 18, 41), "turn_zero": (1, 8, 7), "turn_one": (19, 61, 6),
    },
}
OTHER_KINDS = (
    "", "sha", "SHA256", "sha-256", "sha256 ", " sha256", "sha224", "sha384", "sha1", "md5", "sha512\n", "512",
)
# The constants of sha512 as FIPS 180-4 prints them, for the first and the last rounds.
FIRST_CONSTANTS = (
    0x428a2f98d728ae22, 0x7137449123ef65cd, 0xb5c0fbcfec4d3b2f, 0xe9b5dba58189dbbc,
    0x3956c25bf348b538, 0x59f111f1b605d019, 0x923f82a4af194f9b, 0xab1c5ed5da6d8118,
)
LAST_CONSTANTS = (0x4cc5d4becb3e42b6, 0x597f299cfc657e2a, 0x5fcb6fab3ad6faec, 0x6c44198c4a475817)
STARTS = (
    0x6a09e667f3bcc908, 0xbb67ae8584caa73b, 0x3c6ef372fe94f82b, 0xa54ff53a5f1d36f1,
    0x510e527fade682d1, 0x9b05688c2b3e6c1f, 0x1f83d9abfb41bd6b, 0x5be0cd19137e2179,
)


def words(bits):
    """Return words of so many bits, among them those at the edges."""
    chosen = random.Random(bits)
    edges = [0, 1, 2 ** bits - 1, 2 ** (bits - 1), 2 ** (bits - 1) - 1, 2 ** bits - 2, 0x55 * (2 ** bits // 255)]
    return edges + [chosen.getrandbits(bits) for _ in range(6)]


def bit_list(word, bits):
    """Return the bits of a word, the highest first."""
    return [int(digit) for digit in format(word, f"0{bits}b")]


def from_bits(found):
    return int("".join(str(bit) for bit in found), 2)


def turned(word, by, bits):
    digits = format(word, f"0{bits}b")
    return int(digits[bits - by:] + digits[:bits - by], 2)


def mixed(kind, name, word):
    bits = BITS[kind]
    first, second, third = MIXES[kind][name]
    last = turned(word, third, bits) if name.startswith("sum") else word // 2 ** third
    return turned(word, first, bits) ^ turned(word, second, bits) ^ last


def primes(count):
    found = [number for number in range(2, 500) if all(number % divisor for divisor in range(2, number))]
    return found[:count]


def root_words(kind, count, power):
    """Return words behind the point of roots of primes, each found by bisection."""
    bits = BITS[kind]
    found = []
    for prime in primes(count):
        low, high = 0, prime << bits
        while high - low > 1:
            middle = (low + high) // 2
            if middle ** power <= prime << (power * bits):
                low = middle
            else:
                high = middle
        found.append(low % 2 ** bits)
    return found


def scheduled(kind, block):
    size = BITS[kind] // 8
    found = [int.from_bytes(bytes(block[at:at + size]), "big") for at in range(0, len(block), size)]
    for at in range(16, ROUNDS[kind]):
        total = mixed(kind, "turn_one", found[at - 2]) + found[at - 7]
        total += mixed(kind, "turn_zero", found[at - 15]) + found[at - 16]
        found.append(total % 2 ** BITS[kind])
    return found


def compressed(kind, start, block):
    modulus = 2 ** BITS[kind]
    state = list(start)
    for constant, word in zip(root_words(kind, ROUNDS[kind], 3), scheduled(kind, block)):
        a, b, c, d, e, f, g, h = state
        first = h + mixed(kind, "sum_one", e) + ((e & f) ^ ((modulus - 1 - e) & g)) + constant + word
        second = mixed(kind, "sum_zero", a) + ((a & b) ^ (a & c) ^ (b & c))
        state = [(first + second) % modulus, a, b, c, (d + first) % modulus, e, f, g]
    return [(old + new) % modulus for old, new in zip(start, state)]


class SizesTest(unittest.TestCase):
    def test_sizes(self):
        self.assertEqual([digest_size(kind) for kind in KINDS], [32, 64])
        self.assertEqual([block_size(kind) for kind in KINDS], [64, 128])
        for kind in KINDS:
            self.assertEqual(len(round_constants(kind)), ROUNDS[kind])
            self.assertEqual(len(start_words(kind)), 8)
            self.assertEqual(len(schedule(kind, [0] * BLOCKS[kind])), ROUNDS[kind])

    def test_other_kinds(self):
        for kind in OTHER_KINDS:
            for function in (digest_size, block_size, round_constants, start_words):
                with self.assertRaises(OutOfRange):
                    function(kind)


class WordsTest(unittest.TestCase):
    def test_choose_and_majority(self):
        for bits in (32, 64):
            for x, y, z in itertools.product(words(bits), repeat=3):
                triples = list(zip(bit_list(x, bits), bit_list(y, bits), bit_list(z, bits)))
                self.assertEqual(choose(x, y, z), from_bits([q if p else r for p, q, r in triples]))
                self.assertEqual(majority(x, y, z), from_bits([int(p + q + r >= 2) for p, q, r in triples]))

    def test_all_ones(self):
        for bits in (1, 32, 64):
            ones = 2 ** bits - 1
            self.assertEqual(choose(ones, 5 & ones, 2 & ones), 5 & ones)
            self.assertEqual(choose(0, 5 & ones, 2 & ones), 2 & ones)
            self.assertEqual(choose(ones, ones, 0), ones)
            self.assertEqual(choose(0, ones, 0), 0)
            self.assertEqual(majority(ones, ones, 0), ones)
            self.assertEqual(majority(ones, 0, 0), 0)

    def test_mixed_words(self):
        for kind in KINDS:
            for name, x in itertools.product(NAMES, words(BITS[kind])):
                self.assertEqual(mixed_word(kind, name, x), mixed(kind, name, x))
            for name, at in itertools.product(NAMES, range(BITS[kind])):
                self.assertEqual(mixed_word(kind, name, 2 ** at), mixed(kind, name, 2 ** at))

    def test_mixed_words_of_edges(self):
        for kind in KINDS:
            ones = 2 ** BITS[kind] - 1
            for name in NAMES:
                self.assertEqual(mixed_word(kind, name, 0), 0)
            for name in ("sum_zero", "sum_one"):
                self.assertEqual(mixed_word(kind, name, ones), ones)
            for name in ("turn_zero", "turn_one"):
                self.assertEqual(mixed_word(kind, name, ones), ones >> MIXES[kind][name][2])
        self.assertEqual(mixed_word("sha256", "sum_zero", 1), 2 ** 30 + 2 ** 19 + 2 ** 10)
        self.assertEqual(mixed_word("sha256", "turn_zero", 1), 2 ** 25 + 2 ** 14)
        self.assertEqual(mixed_word("sha512", "turn_one", 64), 2 ** 51 + 2 ** 9 + 1 * 2 ** 0)

    def test_other_names_and_kinds(self):
        for kind in KINDS:
            for name in ("", "sum", "sum_two", "sum_zero ", "SUM_ZERO", "choose", "majority", "turn", "zero", "sha256"):
                with self.assertRaises(OutOfRange):
                    mixed_word(kind, name, 1)
        for kind in OTHER_KINDS:
            for name in NAMES + ("other",):
                with self.assertRaises(OutOfRange):
                    mixed_word(kind, name, 1)


class ConstantsTest(unittest.TestCase):
    def test_round_constants(self):
        for kind in KINDS:
            self.assertEqual(round_constants(kind), root_words(kind, ROUNDS[kind], 3))
        self.assertEqual(tuple(round_constants("sha512")[:8]), FIRST_CONSTANTS)
        self.assertEqual(tuple(round_constants("sha512")[-4:]), LAST_CONSTANTS)

    def test_start_words(self):
        for kind in KINDS:
            self.assertEqual(start_words(kind), root_words(kind, 8, 2))
        self.assertEqual(tuple(start_words("sha512")), STARTS)

    def test_upper_halves(self):
        halves = [word >> 32 for word in round_constants("sha512")[:64]]
        self.assertEqual(round_constants("sha256"), halves)
        self.assertEqual(start_words("sha256"), [word >> 32 for word in start_words("sha512")])

    def test_new_lists(self):
        for kind in KINDS:
            check_lists(self, round_constants, kind)
            check_lists(self, start_words, kind)


class BlockTest(unittest.TestCase):
    def blocks(self, kind):
        chosen = random.Random(kind)
        size = BLOCKS[kind]
        blocks = [[0] * size, [255] * size, [1] + [0] * (size - 1), [0] * (size - 1) + [1], list(range(size))]
        return blocks + [[chosen.randrange(256) for _ in range(size)] for _ in range(5)]

    def test_schedule(self):
        for kind in KINDS:
            for block in self.blocks(kind):
                self.assertEqual(schedule(kind, block), scheduled(kind, block))

    def test_compress(self):
        for kind in KINDS:
            chosen = random.Random(kind)
            ones = 2 ** BITS[kind] - 1
            for block in self.blocks(kind):
                random_words = [chosen.getrandbits(BITS[kind]) for _ in range(8)]
                for start in (start_words(kind), [0] * 8, [ones] * 8, random_words):
                    self.assertEqual(compress(kind, start, block), compressed(kind, start, block))

    def test_one_block_is_a_published_digest(self):
        for kind in KINDS:
            block = [97, 98, 99, 128] + [0] * (BLOCKS[kind] - 5) + [24]
            size = BITS[kind] // 8
            found = b"".join(word.to_bytes(size, "big") for word in compress(kind, start_words(kind), block))
            self.assertEqual(found, hashlib.new(kind, b"abc").digest())

    def test_other_lengths(self):
        for kind in KINDS:
            size = BLOCKS[kind]
            start = start_words(kind)
            for length in (0, 1, 8, size - 1, size + 1, 64, 128, 2 * size, 192):
                if length != size:
                    with self.assertRaises(OutOfRange):
                        schedule(kind, [0] * length)
                    with self.assertRaises(OutOfRange):
                        compress(kind, start, [0] * length)
            for length in (0, 1, 7, 9, 16):
                with self.assertRaises(OutOfRange):
                    compress(kind, [0] * length, [0] * size)

    def test_order_of_the_checks(self):
        for kind in OTHER_KINDS:
            with self.assertRaises(OutOfRange):
                schedule(kind, [0] * 64)
            with self.assertRaises(OutOfRange):
                compress(kind, [0] * 8, [0] * 64)
            # A look at the other arguments would fail in another way.
            with self.assertRaises(OutOfRange):
                schedule(kind, None)
            with self.assertRaises(OutOfRange):
                compress(kind, None, None)
        for kind in KINDS:
            with self.assertRaises(OutOfRange):
                compress(kind, [0] * 7, None)

    def test_lists(self):
        for kind in KINDS:
            block = list(range(BLOCKS[kind]))
            check_lists(self, schedule, kind, block)
            check_lists(self, compress, kind, start_words(kind), block)


if __name__ == "__main__":
    unittest.main()
