"""Points 70, 71 and 76: curveseal.encoding."""

import itertools
import unittest

from curveseal.encoding import edwards_size, read_little_scalar, read_scalar, write_little_scalar, write_scalar
from curveseal.errors import Malformed, OutOfRange
from curveseal.named import GROUP_NAMES, group_named
from lists import check_lists
from makers import group_of_order_two
from reference import EDWARDS, EDWARDS_SIZES, SIZES, WEIERSTRASS


class EdwardsSizeTest(unittest.TestCase):
    def test_named_groups(self):
        self.assertEqual(set(EDWARDS_SIZES), set(EDWARDS))
        for name, size in EDWARDS_SIZES.items():
            group = group_named(name)
            self.assertEqual(edwards_size(group), size)
            self.assertEqual(size, next(n for n in itertools.count() if 2 ** (8 * n - 1) > group.prime))

    def test_edges(self):
        # 113 and 127 lie below 2^7, 131 above; 32749 is the last prime below 2^15, 32771 the first one above.
        for prime, size in ((113, 1), (127, 1), (131, 2), (32749, 2), (32771, 3)):
            self.assertEqual(edwards_size(group_of_order_two(prime)), size)

    def test_other_kind(self):
        for name in WEIERSTRASS:
            with self.assertRaises(OutOfRange):
                edwards_size(group_named(name))


class ScalarTest(unittest.TestCase):
    def test_small_groups(self):
        for name in GROUP_NAMES:
            group = group_named(name)
            n, size = group.order, SIZES[name][1]
            for number in {0, 1, 2, n // 2, n - 2, n - 1, min(n - 1, 255), min(n - 1, 256)}:
                data = list(number.to_bytes(size, "big"))
                self.assertEqual(write_scalar(group, number), data)
                self.assertEqual(read_scalar(group, data), number)

    def test_numbers_out_of_range(self):
        for name in GROUP_NAMES:
            group = group_named(name)
            for number in (-1, group.order, group.order + 1, -group.order, 2 * group.order, 256 ** 40, -(256 ** 40)):
                with self.assertRaises(OutOfRange):
                    write_scalar(group, number)

    def test_numbers_that_are_not_less_than_the_order(self):
        for name in GROUP_NAMES:
            group = group_named(name)
            size = SIZES[name][1]
            self.assertEqual(read_scalar(group, list((group.order - 1).to_bytes(size, "big"))), group.order - 1)
            for number in (group.order, group.order + 1, 256 ** size - 1):
                with self.assertRaises(Malformed):
                    read_scalar(group, list(number.to_bytes(size, "big")))

    def test_lengths(self):
        for name in GROUP_NAMES:
            group = group_named(name)
            size = SIZES[name][1]
            for length in (0, 1, size - 1, size + 1, size + 2, 2 * size, 100):
                if length != size:
                    for data in ([0] * length, [0] * (length - 1) + [1], [255] * length):
                        if len(data) != size:
                            with self.assertRaises(Malformed):
                                read_scalar(group, data)

    def test_all_lists_of_small_groups(self):
        for name in ("w11", "w251", "e13", "e241", "w1021", "e1021"):
            group = group_named(name)
            for length in (0, 1, 2):
                for data in itertools.product(range(256), repeat=length):
                    number = int.from_bytes(bytes(data), "big")
                    if length == SIZES[name][1] and number < group.order:
                        self.assertEqual(read_scalar(group, list(data)), number)
                        self.assertEqual(write_scalar(group, number), list(data))
                    else:
                        with self.assertRaises(Malformed):
                            read_scalar(group, list(data))

    def test_what_is_no_byte_list(self):
        group = group_named("w1021")
        for data in ([0, 256], [0, -1], [True, 0], [1, None], (0, 1), "ab", [1.0, 0]):
            with self.assertRaises(Malformed):
                read_scalar(group, data)

    def test_lists(self):
        for name in ("w11", "p256", "ed25519", "e31"):
            group = group_named(name)
            check_lists(self, write_scalar, group, 4)
            check_lists(self, read_scalar, group, write_scalar(group, 4))


class LittleScalarTest(unittest.TestCase):
    def test_numbers(self):
        for name, size in EDWARDS_SIZES.items():
            group = group_named(name)
            n = group.order
            for number in (0, 1, 2, n // 2, n - 2, n - 1):
                data = list(number.to_bytes(size, "little"))
                self.assertEqual(write_little_scalar(group, number), data)
                self.assertEqual(read_little_scalar(group, data), number)

    def test_numbers_out_of_range(self):
        for name in EDWARDS_SIZES:
            group = group_named(name)
            for number in (-1, group.order, group.order + 1, -group.order, 256 ** 40):
                with self.assertRaises(OutOfRange):
                    write_little_scalar(group, number)

    def test_numbers_that_are_not_less_than_the_order(self):
        for name, size in EDWARDS_SIZES.items():
            group = group_named(name)
            for number in (group.order, group.order + 1, group.prime, 256 ** size - 1, 256 ** size // 2):
                with self.assertRaises(Malformed):
                    read_little_scalar(group, list(number.to_bytes(size, "little")))

    def test_lengths(self):
        for name, size in EDWARDS_SIZES.items():
            group = group_named(name)
            for length in (0, 1, size - 1, size + 1, 2 * size, 100):
                if length != size:
                    with self.assertRaises(Malformed):
                        read_little_scalar(group, [0] * length)
            with self.assertRaises(Malformed):
                read_little_scalar(group, [1] + [0] * size)

    def test_all_lists_of_small_groups(self):
        for name in ("e13", "e61", "e241", "e1021"):
            group = group_named(name)
            for length in (0, 1, 2):
                for data in itertools.product(range(256), repeat=length):
                    number = int.from_bytes(bytes(data), "little")
                    if length == EDWARDS_SIZES[name] and number < group.order:
                        self.assertEqual(read_little_scalar(group, list(data)), number)
                        self.assertEqual(write_little_scalar(group, number), list(data))
                    else:
                        with self.assertRaises(Malformed):
                            read_little_scalar(group, list(data))

    def test_other_kind_comes_first(self):
        for name in WEIERSTRASS:
            group = group_named(name)
            for number in (0, 1, -1, group.order):
                with self.assertRaises(OutOfRange):
                    write_little_scalar(group, number)
            for data in ([], [0], [0] * group.size, [255] * 100):
                with self.assertRaises(OutOfRange):
                    read_little_scalar(group, data)

    def test_what_is_no_byte_list(self):
        group = group_named("e1021")
        for data in ([256, 0], [-1, 0], [0, True], [1, None], (0, 1), "ab"):
            with self.assertRaises(Malformed):
                read_little_scalar(group, data)

    def test_lists(self):
        for name in ("e13", "ed25519"):
            group = group_named(name)
            check_lists(self, write_little_scalar, group, 4)
            check_lists(self, read_little_scalar, group, write_little_scalar(group, 4))


if __name__ == "__main__":
    unittest.main()
