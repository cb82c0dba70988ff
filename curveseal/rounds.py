"""The rounds of both kinds of digest: sizes, mixed words, constants, and the compression of a block."""

from math import isqrt

from curveseal.errors import OutOfRange
from curveseal.octets import from_big

WORD_BITS = {"sha256": 32, "sha512": 64}
BLOCK_SIZES = {"sha256": 64, "sha512": 128}
ROUND_COUNTS = {"sha256": 64, "sha512": 80}
LENGTH_SIZES = {"sha256": 8, "sha512": 16}
DIGEST_SIZES = {"sha256": 32, "sha512": 64}

# By how many bits the three words are turned to the right that make a mixed word.
TURNS = {
    ("sha256", "sum_zero"): (2, 13, 22),
    ("sha256", "sum_one"): (6, 11, 25),
    ("sha256", "turn_zero"): (7, 18, 3),
    ("sha256", "turn_one"): (17, 19, 10),
    ("sha512", "sum_zero"): (28, 34, 39),
    ("sha512", "sum_one"): (14, 18, 41),
    ("sha512", "turn_zero"): (1, 8, 7),
    ("sha512", "turn_one"): (19, 61, 6),
}

# The third word of these is shifted instead, so that zeros come in.
SHIFTED = ("turn_zero", "turn_one")

STATE_WORDS = 8


def check_digest_kind(kind):
    """Raise OutOfRange if there is no such kind of digest."""
    if kind not in WORD_BITS:
        raise OutOfRange("the kind is neither sha256 nor sha512")


def digest_size(kind):
    """Return how many bytes a digest has."""
    check_digest_kind(kind)
    return DIGEST_SIZES[kind]


def block_size(kind):
    """Return how many bytes a block has."""
    check_digest_kind(kind)
    return BLOCK_SIZES[kind]


def length_size(kind):
    """Return in how many bytes the length of a message is written."""
    check_digest_kind(kind)
    return LENGTH_SIZES[kind]


def choose(x, y, z):
    """Return the bits of y where x has ones, and those of z where it has zeros."""
    return ((y ^ z) & x) ^ z


def majority(x, y, z):
    """Return the bits that at least two of the words have."""
    return (x & y) ^ (x & z) ^ (y & z)


def mixed_word(kind, name, x):
    """Return the exclusive or of a word turned to the right in three ways."""
    if (kind, name) not in TURNS:
        raise OutOfRange("there is no mixed word of this kind and name")
    return _mixed(x, WORD_BITS[kind], TURNS[(kind, name)], name in SHIFTED)


def _mixed(x, bits, turns, shifted):
    # In two copies side by side, the lower bits come in from the upper copy.
    twice = x | (x << bits)
    first, second, third = turns
    last = x if shifted else twice
    return ((twice >> first) ^ (twice >> second) ^ (last >> third)) & ((1 << bits) - 1)


def round_constants(kind):
    """Return the constants of the rounds: what is behind the point of cube roots of primes."""
    check_digest_kind(kind)
    bits = WORD_BITS[kind]
    mask = (1 << bits) - 1
    return [_cube_root(prime << (3 * bits)) & mask for prime in _first_primes(ROUND_COUNTS[kind])]


def start_words(kind):
    """Return the words with which a digest begins: what is behind the point of square roots of primes."""
    check_digest_kind(kind)
    bits = WORD_BITS[kind]
    mask = (1 << bits) - 1
    return [isqrt(prime << (2 * bits)) & mask for prime in _first_primes(STATE_WORDS)]


def _first_primes(count):
    primes = []
    number = 2
    while len(primes) < count:
        if _has_no_divisor(number, primes):
            primes.append(number)
        number += 1
    return primes


def _has_no_divisor(number, primes):
    """Tell whether a number is a prime; all smaller primes are given."""
    for prime in primes:
        if prime * prime > number:
            return True
        if number % prime == 0:
            return False
    return True


def _cube_root(number):
    """Return the integer part of the cube root of a positive number."""
    # The start is not less than the root, and no step leads below its integer part.
    root = 1 << ((number.bit_length() + 2) // 3)
    while root ** 3 > number:
        root = (2 * root + number // (root * root)) // 3
    return root


def schedule(kind, block):
    """Return the words of the rounds of a block."""
    check_digest_kind(kind)
    _check_block(kind, block)
    return _scheduled(kind, block)


def _check_block(kind, block):
    if len(block) != BLOCK_SIZES[kind]:
        raise OutOfRange("the block has another size")


def _scheduled(kind, block):
    bits = WORD_BITS[kind]
    mask = (1 << bits) - 1
    size = bits // 8
    zero, one = TURNS[(kind, "turn_zero")], TURNS[(kind, "turn_one")]
    words = [from_big(block[at:at + size]) for at in range(0, len(block), size)]
    for at in range(len(words), ROUND_COUNTS[kind]):
        late = _mixed(words[at - 2], bits, one, True) + words[at - 7]
        early = _mixed(words[at - 15], bits, zero, True) + words[at - 16]
        words.append((late + early) & mask)
    return words


def compress(kind, words, block):
    """Return the eight words that a block makes of eight words."""
    check_digest_kind(kind)
    if len(words) != STATE_WORDS:
        raise OutOfRange("there are not eight words")
    _check_block(kind, block)
    return Compressor(kind).compressed(words, block)


class Compressor:
    """The numbers of a kind of digest, computed once for many blocks."""

    def __init__(self, kind):
        self.kind = kind
        self.block_size = block_size(kind)
        self.word_size = WORD_BITS[kind] // 8
        self._start = start_words(kind)
        self._constants = round_constants(kind)

    def start(self):
        """Return the words with which a digest begins."""
        return list(self._start)

    def compressed(self, words, block):
        """Return the eight words that a block makes of eight words; nothing is checked."""
        bits = WORD_BITS[self.kind]
        mask = (1 << bits) - 1
        zero, one = TURNS[(self.kind, "sum_zero")], TURNS[(self.kind, "sum_one")]
        a, b, c, d, e, f, g, h = words
        for constant, word in zip(self._constants, _scheduled(self.kind, block)):
            first = h + _mixed(e, bits, one, False) + choose(e, f, g) + constant + word
            second = _mixed(a, bits, zero, False) + majority(a, b, c)
            a, b, c, d, e, f, g, h = (first + second) & mask, a, b, c, (d + first) & mask, e, f, g
        return [(old + new) & mask for old, new in zip(words, (a, b, c, d, e, f, g, h))]
