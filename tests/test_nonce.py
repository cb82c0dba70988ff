"""Points 99 to 102: curveseal.nonce."""

import hashlib
import hmac
import itertools
import unittest

from curveseal.errors import OutOfRange
from curveseal.hashes import Sha256, Sha512
from curveseal.named import group_named
from curveseal.nonce import NonceSource, leading_number
from lists import check_lists

HASHERS = {"sha256": Sha256(), "sha512": Sha512()}
P256 = group_named("p256").order
# RFC 6979, A.1 (a curve whose order has 163 bits), A.2.5 (P-256) and A.2.7 (P-521): order, secret, nonces.
SECT163 = (
    0x4000000000000000000020108A2E0CC0D99F8A5EF,
    0x09A4D6792295A7F730FC3F2B49CBC0F62E862272F,
    {("sha256", "sample"): 0x23AF4074C90A02B3FE61D286D5C87F425E6BDD81B},
)
P256_CASE = (
    P256,
    0xC9AFA9D845BA75166B5C215767B1D6934E50C3DB36E89B127B8A622B120F6721,
    {
        ("sha256", "sample"): 0xA6E3C57DD01ABE90086538398355DD4C3B17AA873382B0F24D6129493D8AAD60,
        ("sha512", "sample"): 0x5FA81C63109BADB88C1F367B47DA606DA28CAD69AA22C4FE6AD7DF73A7173AA5,
        ("sha256", "test"): 0xD16B6AE827F17175E040871A1C7EC3500192C4C92677336EC2537ACAEE0008E0,
        ("sha512", "test"): 0x6915D11632ACA3C40D5D51C08DAF9C555933819548784480E93499000D9F0B7F,
    },
)
P521_CASE = (
    ((2 ** 265 - 6) << 256) + 0x51868783BF2F966B7FCC0148F709A5D03BB5C9B8899C47AEBB6FB71E91386409,
    int(
        "0FAD06DAA62BA3B25D2FB40133DA757205DE67F5BB0018FEE8C86E1B68C7E75C"
        "AA896EB32F1F47C70855836A6D16FCC1466F6D8FBEC67DB89EC0C08B0E996B83538", 16
    ),
    {
        ("sha256", "sample"): int(
            "0EDF38AFCAAECAB4383358B34D67C9F2216C8382AAEA44A3DAD5FDC9C3257576"
            "1793FEF24EB0FC276DFC4F6E3EC476752F043CF01415387470BCBD8678ED2C7E1A0", 16
        ),
        ("sha512", "sample"): int(
            "1DAE2EA071F8110DC26882D4D5EAE0621A3256FC8847FB9022E2B7D28E6F1019"
            "8B1574FDD03A9053C08A1854A168AA5A57470EC97DD5CE090124EF52A2F7ECBFFD3", 16
        ),
    },
)


def leading(data, bits):
    """Return the number of the first bits, found in a string of all bits."""
    digits = "".join(format(byte, "08b") for byte in data)[:bits]
    return int(digits, 2) if digits else 0


class Reference:
    """The generator of points 99 to 102."""

    def __init__(self, order, secret, kind, data, extra=b""):
        self.order, self.kind, self.bits = order, kind, order.bit_length()
        size = (self.bits + 7) // 8
        number = leading(data, self.bits) % order
        seed = secret.to_bytes(size, "big") + number.to_bytes(size, "big") + bytes(extra)
        width = hashlib.new(kind).digest_size
        self.key, self.value = bytes(width), b"\x01" * width
        for mark in (b"\x00", b"\x01"):
            self.key = self.keyed(self.value + mark + seed)
            self.value = self.keyed(self.value)

    def keyed(self, data):
        return hmac.new(self.key, data, self.kind).digest()

    def candidate(self):
        joined = b""
        while True:
            self.value = self.keyed(self.value)
            joined += self.value
            if 8 * len(joined) >= self.bits:
                break
        self.key = self.keyed(self.value + b"\x00")
        self.value = self.keyed(self.value)
        return leading(joined, self.bits)

    def next_nonce(self):
        for _ in range(64):
            candidate = self.candidate()
            if 1 <= candidate <= self.order - 1:
                return candidate
        return self.candidate() % (self.order - 1) + 1

    def state(self):
        return tuple(self.key), tuple(self.value)


class Script:
    """A hasher whose values of V are told beforehand, one byte for each candidate."""

    size = 1

    def __init__(self, candidates):
        self.candidates = candidates
        self.calls = 0

    def keyed(self, key, data):
        self.calls += 1
        # Four calls begin the generator; then each candidate takes one call, and two calls go on.
        at, kind = divmod(self.calls - 5, 3)
        return [self.candidates[at] if self.calls > 4 and kind == 0 else 77]


class LeadingNumberTest(unittest.TestCase):
    def test_example(self):
        self.assertEqual(leading_number([255, 1], 12), 4080)

    def test_against_the_bits(self):
        data = [(37 * at + 11) % 256 for at in range(70)]
        for length, bits in itertools.product((0, 1, 2, 3, 31, 32, 33, 65, 66, 70), range(1, 522)):
            self.assertEqual(leading_number(data[:length], bits), leading(data[:length], bits))

    def test_edges(self):
        self.assertEqual(leading_number([], 1), 0)
        self.assertEqual(leading_number([], 521), 0)
        self.assertEqual(leading_number([1], 521), 1)
        self.assertEqual(leading_number([128], 1), 1)
        self.assertEqual(leading_number([127], 1), 0)
        self.assertEqual(leading_number([255] * 2048, 521), 2 ** 521 - 1)
        self.assertEqual(leading_number([255] * 2048, 1), 1)
        self.assertEqual(leading_number([255] * 65, 521), 2 ** 520 - 1)

    def test_out_of_range(self):
        for bits in (1, 12, 521, None):
            with self.assertRaises(OutOfRange):
                leading_number([0] * 2049, bits)
        for bits in (0, -1, 522, 1000, -521):
            for data in ([], [1], [0] * 2048, [0] * 2049):
                with self.assertRaises(OutOfRange):
                    leading_number(data, bits)

    def test_lists(self):
        check_lists(self, leading_number, [1, 2, 3], 9)


class PublishedTest(unittest.TestCase):
    def test_nonces_of_the_standard(self):
        for order, secret, nonces in (SECT163, P256_CASE, P521_CASE):
            for (kind, text), nonce in nonces.items():
                hasher = HASHERS[kind]
                source = NonceSource(order, secret, hasher, hasher.digest(list(text.encode())))
                self.assertEqual(source.next_nonce(), nonce)

    def test_example(self):
        hasher = Sha256()
        source = NonceSource(251, 7, hasher, hasher.digest([115, 97, 109, 112, 108, 101]))
        self.assertEqual([source.next_nonce() for _ in range(4)], [223, 241, 233, 249])


class NonceSourceTest(unittest.TestCase):
    def check(self, order, secret, kind, data, extra=(), count=3):
        source = NonceSource(order, secret, HASHERS[kind], list(data), extra=extra)
        reference = Reference(order, secret, kind, data, extra)
        self.assertEqual(source.state(), reference.state())
        for _ in range(count):
            nonce = source.next_nonce()
            self.assertEqual(nonce, reference.next_nonce())
            self.assertTrue(1 <= nonce < order)
            self.assertEqual(source.state(), reference.state())

    def test_orders(self):
        orders = [2, 3, 4, 5, 7, 16, 17, 127, 128, 251, 255, 256, 257, 2 ** 31 - 1, 2 ** 163 + 5, P256]
        orders += [2 ** 255 - 19, 2 ** 256, 2 ** 256 + 1, 2 ** 512 - 1, 2 ** 512, 2 ** 520 + 7, 2 ** 521 - 1]
        for order, kind in itertools.product(orders, ("sha256", "sha512")):
            data = hashlib.new(kind, b"sample").digest()
            for secret in {1, order // 2, order - 1}:
                self.check(order, secret, kind, data)

    def test_smallest_orders(self):
        for kind in ("sha256", "sha512"):
            for data in ([], [0], [255] * 40):
                self.check(2, 1, kind, data, count=12)
                self.check(3, 1, kind, data, count=12)
                self.check(3, 2, kind, data, count=12)
        source = NonceSource(2, 1, Sha256(), [5])
        self.assertEqual([source.next_nonce() for _ in range(9)], [1] * 9)

    def test_digests_of_other_lengths(self):
        for order in (3, 251, 2 ** 163 + 5, P256, 2 ** 521 - 1):
            for length in (0, 1, 2, 20, 31, 32, 33, 64, 65, 66, 67, 1023, 1024):
                self.check(order, order - 1, "sha256", [(91 * at + 200) % 256 for at in range(length)], count=1)
                self.check(order, order - 1, "sha256", [255] * length, count=1)

    def test_extra_bytes(self):
        for extra in ((), [], [0], [1, 2, 3], [255] * 100, [7] * 1024, (1, 2, 3)):
            self.check(P256, 12345, "sha256", [1] * 32, extra)
            self.check(17, 12, "sha512", [1] * 32, extra)
        states = [NonceSource(17, 3, Sha256(), [1], extra=extra).state() for extra in ((), [], [0], [0, 0])]
        self.assertEqual(states[0], states[1])
        self.assertEqual(len(set(states)), 3)

    def test_several_nonces(self):
        self.check(P256, 77, "sha256", [4] * 32, count=8)
        self.check(2 ** 521 - 1, 77, "sha512", [4] * 64, count=5)
        self.check(67, 50, "sha512", [4] * 64, count=30)

    def test_kinds_of_values(self):
        state = NonceSource(251, 7, Sha512(), [1]).state()
        self.assertEqual([type(part) for part in state], [tuple, tuple])
        self.assertEqual([len(part) for part in state], [64, 64])
        self.assertEqual([len(part) for part in NonceSource(251, 7, Sha256(), [1]).state()], [32, 32])

    def test_twin_goes_on_by_itself(self):
        for kind in ("sha256", "sha512"):
            source = NonceSource(251, 7, HASHERS[kind], [1, 2], extra=[3])
            reference = Reference(251, 7, kind, [1, 2], [3])
            self.assertEqual(source.next_nonce(), reference.next_nonce())
            twin = source.twin()
            self.assertIs(type(twin), NonceSource)
            self.assertEqual(twin.state(), source.state())
            before = source.state()
            later = [reference.next_nonce() for _ in range(4)]
            self.assertEqual([twin.next_nonce() for _ in range(4)], later)
            self.assertEqual(source.state(), before)
            self.assertEqual([source.next_nonce() for _ in range(2)], later[:2])
            second = source.twin()
            self.assertEqual([source.next_nonce() for _ in range(2)], later[2:])
            self.assertEqual([second.next_nonce() for _ in range(2)], later[2:])
            self.assertEqual(twin.state(), source.state())
            self.assertEqual(twin.next_nonce(), source.next_nonce())

    def test_twin_for_the_smallest_orders(self):
        for order, secret in ((2, 1), (3, 2)):
            source = NonceSource(order, secret, HASHERS["sha256"], [1, 2])
            twin = source.twin()
            self.assertEqual(twin.state(), source.state())
            self.assertEqual([twin.next_nonce() for _ in range(5)], [source.next_nonce() for _ in range(5)])

    def test_same_arguments_give_the_same(self):
        first, second = (NonceSource(P256, 5, HASHERS["sha256"], [1] * 32) for _ in range(2))
        self.assertEqual([first.next_nonce() for _ in range(3)], [second.next_nonce() for _ in range(3)])

    def test_lists_stay_apart(self):
        data, extra = [1, 2, 3], [4, 5]
        source = NonceSource(251, 7, HASHERS["sha256"], data, extra=extra)
        self.assertEqual((data, extra), ([1, 2, 3], [4, 5]))
        data.append(9)
        extra[0] = 9
        reference = Reference(251, 7, "sha256", [1, 2, 3], [4, 5])
        self.assertEqual([source.next_nonce() for _ in range(3)], [reference.next_nonce() for _ in range(3)])


class ManyCandidatesTest(unittest.TestCase):
    # The order has five bits, so a candidate is the number of the upper five bits of a byte.
    ORDER = 17

    def nonces(self, candidates, count):
        source = NonceSource(self.ORDER, 3, Script([8 * number for number in candidates]), [1])
        return [source.next_nonce() for _ in range(count)]

    def test_first_candidate_in_range(self):
        self.assertEqual(self.nonces([5, 16, 1], 3), [5, 16, 1])
        self.assertEqual(self.nonces([0, 17, 31, 16, 0, 9], 2), [16, 9])

    def test_sixty_fourth_candidate(self):
        self.assertEqual(self.nonces([0] * 63 + [5, 6], 2), [5, 6])
        self.assertEqual(self.nonces([17] * 63 + [16, 6], 2), [16, 6])

    def test_sixty_fifth_candidate(self):
        for number in range(32):
            self.assertEqual(self.nonces([0, 20] * 32 + [number, 6], 2), [number % 16 + 1, 6])

    def test_again_afterwards(self):
        candidates = [31] * 64 + [16] + [0] * 64 + [2] + [0] * 63 + [9, 10]
        self.assertEqual(self.nonces(candidates, 4), [1, 3, 9, 10])

    def test_order_two(self):
        source = NonceSource(2, 1, Script([0, 128, 192] * 21 + [0, 192, 64]), [1])
        self.assertEqual([source.next_nonce() for _ in range(2)], [1, 1])


class OutOfRangeTest(unittest.TestCase):
    def test_orders(self):
        for order in (1, 0, -1, -17, 2 ** 521, 2 ** 521 + 1, 2 ** 600):
            for secret in (1, 0, order - 1, None):
                with self.assertRaises(OutOfRange):
                    NonceSource(order, secret, Sha256(), [1])
        self.assertEqual(NonceSource(2 ** 521 - 1, 2 ** 521 - 2, Sha256(), []).next_nonce().bit_length() > 500, True)

    def test_secrets(self):
        for order in (2, 3, 17, P256, 2 ** 521 - 1):
            for secret in (0, -1, order, order + 1, 2 * order + 1, -order):
                for data in ([1], [0] * 1025, None):
                    with self.assertRaises(OutOfRange):
                        NonceSource(order, secret, Sha256(), data)

    def test_byte_lists(self):
        for length in (1025, 2048, 5000):
            with self.assertRaises(OutOfRange):
                NonceSource(17, 3, Sha256(), [0] * length)
            with self.assertRaises(OutOfRange):
                NonceSource(17, 3, Sha256(), [0] * length, extra=None)
            with self.assertRaises(OutOfRange):
                NonceSource(17, 3, Sha256(), [0], extra=[0] * length)
        self.assertTrue(NonceSource(17, 3, Sha256(), [0] * 1024, extra=[0] * 1024).next_nonce() < 17)


if __name__ == "__main__":
    unittest.main()
