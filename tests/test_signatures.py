"""Points 70, 71, 75, 76 and 81: curveseal.signatures."""

import itertools
import unittest

from curveseal.errors import Malformed, NotAPoint, OutOfRange
from curveseal.named import GROUP_NAMES, group_named
from curveseal.signatures import (
    read_edwards_signature, read_plain, read_tagged, read_x_signature, write_edwards_signature, write_plain,
    write_tagged, write_x_signature,
)
from curveseal.tagged import write_pair, write_tree
from lists import check_lists
from reference import EDWARDS, EDWARDS_SIZES, SIZES, WEIERSTRASS, curve_points, edwards_points


def big(number, size):
    return list(number.to_bytes(size, "big"))


def little(number, size):
    return list(number.to_bytes(size, "little"))


def good_numbers(group):
    n = group.order
    return sorted({1, 2, n // 2, n - 2, n - 1})


class PlainTest(unittest.TestCase):
    def test_named_groups(self):
        for name in GROUP_NAMES:
            group = group_named(name)
            size = SIZES[name][1]
            for r, s in itertools.product(good_numbers(group), repeat=2):
                data = big(r, size) + big(s, size)
                self.assertEqual(write_plain(group, r, s), data)
                self.assertEqual(read_plain(group, data), (r, s))
            self.assertIs(type(read_plain(group, write_plain(group, 1, 1))), tuple)

    def test_numbers_out_of_range(self):
        for name in GROUP_NAMES:
            group = group_named(name)
            n = group.order
            for r, s in itertools.product((0, n, n + 1, -1, -n, 1), repeat=2):
                if (r, s) != (1, 1):
                    for writer in (write_plain, write_tagged):
                        with self.assertRaises(OutOfRange):
                            writer(group, r, s)

    def test_error_for_r_comes_first(self):
        for name in ("w11", "p256", "e13"):
            group = group_named(name)
            for r in (0, -1, group.order):
                for writer in (write_plain, write_tagged):
                    # A look at s would fail in another way.
                    with self.assertRaises(OutOfRange):
                        writer(group, r, None)

    def test_numbers_that_readers_refuse(self):
        for name in GROUP_NAMES:
            group = group_named(name)
            size = SIZES[name][1]
            n = group.order
            for r, s in itertools.product((0, n, n + 1, 256 ** size - 1, 1, n - 1), repeat=2):
                if r in (1, n - 1) and s in (1, n - 1):
                    self.assertEqual(read_plain(group, big(r, size) + big(s, size)), (r, s))
                    self.assertEqual(read_tagged(group, write_pair(r, s)), (r, s))
                else:
                    with self.assertRaises(Malformed):
                        read_plain(group, big(r, size) + big(s, size))
                    with self.assertRaises(Malformed):
                        read_tagged(group, write_pair(r, s))

    def test_every_list_of_small_groups(self):
        for name in ("w11", "w251", "e13"):
            group = group_named(name)
            for length in range(3):
                for data in itertools.product(range(256), repeat=length):
                    if length == 2 and 1 <= min(data) and max(data) < group.order:
                        self.assertEqual(read_plain(group, list(data)), data)
                        self.assertEqual(write_plain(group, *data), list(data))
                    else:
                        with self.assertRaises(Malformed):
                            read_plain(group, list(data))

    def test_other_lengths(self):
        for name in GROUP_NAMES:
            group = group_named(name)
            data = write_plain(group, 1, 2)
            for wrong in ([], data[:-1], data[1:], data + [1], [0] + data, data + data, data[:len(data) // 2]):
                with self.assertRaises(Malformed):
                    read_plain(group, wrong)

    def test_what_is_no_byte_list(self):
        group = group_named("w11")
        for data in ((1, 2), [True, 1], [1, True], [1, None], "ab", [1.0, 1]):
            with self.assertRaises(Malformed):
                read_plain(group, data)

    def test_lists(self):
        for name in ("w11", "p256", "ed25519"):
            group = group_named(name)
            check_lists(self, write_plain, group, 3, 4)
            check_lists(self, read_plain, group, write_plain(group, 3, 4))


class TaggedTest(unittest.TestCase):
    def test_named_groups(self):
        for name in GROUP_NAMES:
            group = group_named(name)
            for r, s in itertools.product(good_numbers(group), repeat=2):
                data = write_pair(r, s)
                self.assertEqual(write_tagged(group, r, s), data)
                self.assertEqual(read_tagged(group, data), (r, s))
            self.assertIs(type(read_tagged(group, write_tagged(group, 1, 1))), tuple)
        self.assertEqual(write_tagged(group_named("w251"), 1, 128), [48, 7, 2, 1, 1, 2, 2, 0, 128])

    def test_other_forms(self):
        for name in ("w11", "p256", "e31"):
            group = group_named(name)
            good = write_tagged(group, 1, 2)
            wrong = [[], good[:-1], good[1:], good + [0], good + good, write_plain(group, 1, 2)]
            wrong += [write_tree(value) for value in (1, (), (1,), (1, 2, 3), ((1, 2),), (1, (2,)), ((1,), 2))]
            wrong += [[48, 7, 2, 2, 0, 1, 2, 1, 2], [48, 129, 6, 2, 1, 1, 2, 1, 2], [49] + good[1:]]
            wrong.append(write_pair(2 ** 520 - 1, 1))
            for data in wrong:
                with self.assertRaises(Malformed):
                    read_tagged(group, data)

    def test_changed_bytes(self):
        group = group_named("w251")
        data = write_tagged(group, 200, 7)
        for at, byte in itertools.product(range(len(data)), range(256)):
            changed = data[:at] + [byte] + data[at + 1:]
            try:
                pair = read_tagged(group, changed)
            except Malformed:
                continue
            self.assertEqual(write_tagged(group, *pair), changed)

    def test_lists(self):
        for name in ("w11", "p256", "ed25519"):
            group = group_named(name)
            check_lists(self, write_tagged, group, 3, 4)
            check_lists(self, read_tagged, group, write_tagged(group, 3, 4))


class XSignatureTest(unittest.TestCase):
    def test_small_groups(self):
        for name in ("w11", "w23"):
            group = group_named(name)
            for point in curve_points(group.prime, group.curve.a, group.curve.b)[1:]:
                for s in range(group.order):
                    data = [point[0], s]
                    self.assertEqual(write_x_signature(group, point, s), data)
                    even = point if point[1] % 2 == 0 else group.negate(point)
                    self.assertEqual(read_x_signature(group, data), (even, s))

    def test_every_list_of_two_bytes(self):
        group = group_named("w251")
        for data in itertools.product(range(256), repeat=2):
            point = group.lift(data[0], False)
            if point is None or data[1] >= group.order:
                with self.assertRaises(Malformed):
                    read_x_signature(group, list(data))
            else:
                self.assertEqual(read_x_signature(group, list(data)), (point, data[1]))
                self.assertEqual(write_x_signature(group, point, data[1]), list(data))

    def test_named_groups(self):
        for name in WEIERSTRASS:
            group = group_named(name)
            size, order_size = SIZES[name]
            for factor, s in itertools.product((1, 2, 5), (0, 1, group.order - 1)):
                point = group.multiply(factor, group.base)
                data = big(point[0], size) + big(s, order_size)
                even = point if point[1] % 2 == 0 else group.negate(point)
                self.assertEqual(write_x_signature(group, point, s), data)
                self.assertEqual(read_x_signature(group, data), (even, s))
            self.assertIs(type(read_x_signature(group, data)), tuple)
            for wrong in ([], data[:-1], data[1:], data + [0], [0] + data, data + data, data[:size], data[size:]):
                with self.assertRaises(Malformed):
                    read_x_signature(group, wrong)
            for number in (group.order, 256 ** order_size - 1):
                with self.assertRaises(Malformed):
                    read_x_signature(group, data[:size] + big(number, order_size))

    def test_sizes_that_differ(self):
        # A group whose coordinates have one byte and whose order has two.
        group = group_named("w251")
        group.order, group.order_size = 257, 2
        self.assertEqual(write_x_signature(group, (2, 84), 256), [2, 1, 0])
        self.assertEqual(read_x_signature(group, [2, 1, 0]), ((2, 84), 256))
        self.assertEqual(read_plain(group, [1, 0, 0, 1]), (256, 1))

    def test_errors_of_writing(self):
        for name in ("w11", "p256"):
            group = group_named(name)
            for value in (None, (-1, 0), (group.prime, 0), (group.base[0], group.prime), "point", [0, 10]):
                for s in (0, 1, -1, group.order):
                    with self.assertRaises(NotAPoint):
                        write_x_signature(group, value, s)
            for s in (-1, group.order, group.order + 1):
                with self.assertRaises(OutOfRange):
                    write_x_signature(group, group.base, s)

    def test_other_kind_comes_first(self):
        for name in EDWARDS:
            group = group_named(name)
            for value in (group.base, None, "point"):
                with self.assertRaises(OutOfRange):
                    write_x_signature(group, value, 1)
            for data in ([], [0], [0, 0], [1] * (group.size + group.order_size)):
                with self.assertRaises(OutOfRange):
                    read_x_signature(group, data)

    def test_lists(self):
        for name in ("w11", "p256"):
            group = group_named(name)
            check_lists(self, write_x_signature, group, group.base, 4)
            check_lists(self, read_x_signature, group, write_x_signature(group, group.base, 4))


class EdwardsSignatureTest(unittest.TestCase):
    def test_small_groups(self):
        for name in ("e13", "e29", "e61", "e241"):
            group = group_named(name)
            size = EDWARDS_SIZES[name]
            for x, y in edwards_points(group.prime, group.curve.a, group.curve.d):
                first = little(y + 2 ** (8 * size - 1) * (x % 2), size)
                for s in (0, 1, group.order - 1):
                    data = first + little(s, size)
                    self.assertEqual(write_edwards_signature(group, (x, y), s), data)
                    self.assertEqual(read_edwards_signature(group, data), ((x, y), s))

    def test_every_list_of_two_bytes(self):
        group = group_named("e61")
        points = edwards_points(group.prime, group.curve.a, group.curve.d)
        forms = {y + 128 * (x % 2): (x, y) for x, y in points}
        for data in itertools.product(range(256), repeat=2):
            if data[0] in forms and data[1] < group.order:
                self.assertEqual(read_edwards_signature(group, list(data)), (forms[data[0]], data[1]))
            else:
                with self.assertRaises(Malformed):
                    read_edwards_signature(group, list(data))

    def test_named_groups(self):
        for name, size in EDWARDS_SIZES.items():
            group = group_named(name)
            for factor, s in itertools.product((0, 1, 2, -1), (0, 1, group.order - 1)):
                point = group.multiply(factor, group.base)
                data = write_edwards_signature(group, point, s)
                self.assertEqual(len(data), 2 * size)
                self.assertEqual(data[size:], little(s, size))
                self.assertEqual(read_edwards_signature(group, data), (point, s))
            self.assertIs(type(read_edwards_signature(group, data)), tuple)
            for wrong in ([], data[:-1], data[1:], data + [0], [0] + data, data + data, data[:size]):
                with self.assertRaises(Malformed):
                    read_edwards_signature(group, wrong)
            for number in (group.order, 256 ** size - 1):
                with self.assertRaises(Malformed):
                    read_edwards_signature(group, data[:size] + little(number, size))
            with self.assertRaises(Malformed):
                read_edwards_signature(group, little(1 + 2 ** (8 * size - 1), size) + data[size:])

    def test_errors_of_writing(self):
        for name in ("e13", "ed25519"):
            group = group_named(name)
            for value in (None, (0, 0), (0, -1), (0, group.prime + 1), "point", [0, 1]):
                for s in (0, 1, -1, group.order):
                    with self.assertRaises(NotAPoint):
                        write_edwards_signature(group, value, s)
            for s in (-1, group.order, group.order + 1):
                with self.assertRaises(OutOfRange):
                    write_edwards_signature(group, group.base, s)

    def test_other_kind_comes_first(self):
        for name in WEIERSTRASS:
            group = group_named(name)
            for value in (group.base, None, "point"):
                with self.assertRaises(OutOfRange):
                    write_edwards_signature(group, value, 1)
            for data in ([], [0], [0, 0], [1] * 64):
                with self.assertRaises(OutOfRange):
                    read_edwards_signature(group, data)

    def test_lists(self):
        for name in ("e13", "ed25519"):
            group = group_named(name)
            check_lists(self, write_edwards_signature, group, group.base, 4)
            check_lists(self, read_edwards_signature, group, write_edwards_signature(group, group.base, 4))


if __name__ == "__main__":
    unittest.main()
