"""Points 70 to 76: curveseal.points."""

import itertools
import unittest

from curveseal.edwards import EdwardsCurve
from curveseal.errors import Malformed, NotAPoint, OutOfRange
from curveseal.groups import EdwardsGroup, Group
from curveseal.named import group_named
from curveseal.points import (
    read_compressed, read_edwards, read_point, read_uncompressed, read_x, write_edwards, write_point, write_x,
)
from curveseal.weierstrass import Curve
from lists import check_lists
from reference import EDWARDS, WEIERSTRASS, curve_points, edwards_points
from values import ODD_VALUES

SMALL = ("w11", "w23", "w43", "w79", "w251")
READERS = (read_point, read_compressed, read_uncompressed)


def group_with_y_zero():
    """Return a group of a curve with a point of order two; its coordinates have one byte."""
    p, a, b = 7, 1, 0
    points = curve_points(p, a, b)
    curve = Curve(p, a, b)
    base = next(point for point in points[1:] if curve.double(point) is None)
    return Group("two", curve, base, 2, len(points) // 2)


def all_points(group):
    return curve_points(group.prime, group.curve.a, group.curve.b)


def forms(group, point):
    """Return the compressed and the uncompressed form of a point."""
    if point is None:
        return [0], [0]
    x, y = (list(number.to_bytes(group.size, "big")) for number in point)
    return [2 + point[1] % 2] + x, [4] + x + y


def edwards_form(group, size, point):
    """Return the form of a point of an Edwards group."""
    number = point[1] + 2 ** (8 * size - 1) * (point[0] % 2)
    return list(number.to_bytes(size, "little"))


class WritePointTest(unittest.TestCase):
    def test_small_groups(self):
        for group in [group_named(name) for name in SMALL] + [group_with_y_zero()]:
            for point in all_points(group):
                compressed, full = forms(group, point)
                self.assertEqual(write_point(group, point), compressed)
                self.assertEqual(write_point(group, point, compressed=True), compressed)
                self.assertEqual(write_point(group, point, compressed=False), full)
                for reader in READERS:
                    for data, taken in ((compressed, read_uncompressed), (full, read_compressed)):
                        if reader == taken and point is not None:
                            with self.assertRaises(Malformed):
                                reader(group, data)
                        else:
                            self.assertEqual(reader(group, data), point)

    def test_named_groups(self):
        for name in WEIERSTRASS:
            group = group_named(name)
            for factor in (1, 2, 3, group.order - 1, group.order // 2):
                point = group.multiply(factor, group.base)
                compressed, full = forms(group, point)
                self.assertEqual(write_point(group, point), compressed)
                self.assertEqual(write_point(group, point, compressed=False), full)
                self.assertEqual(read_point(group, compressed), point)
                self.assertEqual(read_point(group, full), point)
                self.assertEqual(read_compressed(group, compressed), point)
                self.assertEqual(read_uncompressed(group, full), point)

    def test_published_form(self):
        group = group_named("secp256k1")
        expected = "0279be667ef9dcbbac55a06295ce870b07029bfcdb2dce28d959f2815b16f81798"
        self.assertEqual(bytes(write_point(group, group.base)).hex(), expected)
        self.assertEqual(write_point(group_named("p256"), group_named("p256").base)[:3], [3, 0x6b, 0x17])

    def test_y_zero(self):
        group = group_with_y_zero()
        point = next(point for point in all_points(group)[1:] if point[1] == 0)
        self.assertEqual(write_point(group, point), [2, point[0]])
        self.assertEqual(read_point(group, [2, point[0]]), point)
        self.assertEqual(read_compressed(group, [2, point[0]]), point)
        self.assertEqual(write_x(group, point), [point[0]])
        self.assertEqual(read_x(group, [point[0]]), point)
        for reader in READERS:
            with self.assertRaises(Malformed):
                reader(group, [3, point[0]])

    def test_what_is_no_point(self):
        for name in ("w11", "w1021", "p256"):
            group = group_named(name)
            x, y = group.base
            p = group.prime
            wrong = [(x, (y + 1) % p), (x + p, y), (x, y + p), (x, y - p), (x, -y), (x, y, 1), [x, y], (x,), ()]
            for value in wrong + [value for value in ODD_VALUES if not group.has(value)]:
                for options in ({}, {"compressed": True}, {"compressed": False}):
                    with self.assertRaises(NotAPoint):
                        write_point(group, value, **options)
                with self.assertRaises(NotAPoint):
                    write_x(group, value)
            with self.assertRaises(NotAPoint):
                write_x(group, None)
            self.assertEqual(write_point(group, None), [0])
            self.assertEqual(write_point(group, None, compressed=False), [0])

    def test_lists(self):
        for name in ("w11", "p256"):
            group = group_named(name)
            for point in (None, group.base):
                check_lists(self, write_point, group, point)
                check_lists(self, write_point, group, point, compressed=False)
                check_lists(self, read_compressed, group, write_point(group, point))
                check_lists(self, read_uncompressed, group, write_point(group, point, compressed=False))
                check_lists(self, read_point, group, write_point(group, point))
            check_lists(self, write_x, group, group.base)
            check_lists(self, read_x, group, write_x(group, group.base))


class ReadPointTest(unittest.TestCase):
    def check_all(self, group, lists):
        """Compare with the forms of all points."""
        points = all_points(group)
        compressed = {bytes(forms(group, point)[0]): point for point in points}
        full = {bytes(forms(group, point)[1]): point for point in points}
        for data in lists:
            for reader, expected in zip(READERS, ({**compressed, **full}, compressed, full)):
                if bytes(data) in expected:
                    self.assertEqual(reader(group, list(data)), expected[bytes(data)])
                else:
                    with self.assertRaises(Malformed):
                        reader(group, list(data))

    def test_every_list_of_up_to_two_bytes(self):
        lists = [data for length in range(3) for data in itertools.product(range(256), repeat=length)]
        self.check_all(group_named("w251"), lists)
        self.check_all(group_named("w11"), lists)
        self.check_all(group_with_y_zero(), lists)

    def test_lists_of_three_bytes(self):
        lists = list(itertools.product((4,), range(256), range(256)))
        self.check_all(group_named("w251"), lists)
        self.check_all(group_named("w11"), itertools.product(range(6), range(13), range(13)))
        self.check_all(group_with_y_zero(), itertools.product(range(6), range(9), range(9)))

    def test_lists_of_four_bytes(self):
        self.check_all(group_named("w11"), itertools.product((0, 2, 3, 4), (0, 1, 5, 11), (0, 1, 10), (0, 1, 5)))

    def test_first_bytes(self):
        for name in ("w11", "w1021", "p256"):
            group = group_named(name)
            compressed, full = forms(group, group.base)
            for first in range(256):
                for form in (compressed, full, [0]):
                    data = [first] + form[1:]
                    points = (group.base, group.negate(group.base), None)
                    good = {bytes(each): point for point in points for each in forms(group, point)}
                    if bytes(data) in good:
                        self.assertEqual(read_point(group, data), good[bytes(data)])
                    else:
                        for reader in READERS:
                            with self.assertRaises(Malformed):
                                reader(group, data)

    def test_lengths(self):
        for name in ("w11", "w1021", "p256"):
            group = group_named(name)
            compressed, full = forms(group, group.base)
            for form in (compressed, full):
                for data in (form[:-1], form[:-2], form + [0], form[:1] + [0] + form[1:], [form[0]], form + form, []):
                    for reader in READERS:
                        with self.assertRaises(Malformed):
                            reader(group, data)
            for data in ([0, 0], [0] * (group.size + 1), [0] * (2 * group.size + 1), [0, 1]):
                for reader in READERS:
                    with self.assertRaises(Malformed):
                        reader(group, data)

    def test_coordinates_of_the_prime_and_more(self):
        for name in ("w11", "w79", "w251", "w1021", "w65521", "w31", "p256", "secp256k1"):
            group = group_named(name)
            p, size = group.prime, group.size
            points = [group.multiply(factor, group.base) for factor in range(1, 8)]
            coordinates = {0, p - 1} | {number for point in points for number in point}
            for number in coordinates:
                for more in (number + p, number + 2 * p):
                    if more < 256 ** size:
                        big = list(more.to_bytes(size, "big"))
                        for first in (2, 3):
                            for reader in (read_point, read_compressed):
                                with self.assertRaises(Malformed):
                                    reader(group, [first] + big)
                        with self.assertRaises(Malformed):
                            read_x(group, big)
                        for point in points:
                            x, y = (list(item.to_bytes(size, "big")) for item in point)
                            for reader in (read_point, read_uncompressed):
                                with self.assertRaises(Malformed):
                                    reader(group, [4] + big + y)
                                with self.assertRaises(Malformed):
                                    reader(group, [4] + x + big)

    def test_x_that_belongs_to_no_point(self):
        for name in ("w1021", "p256", "secp256k1", "w31"):
            group = group_named(name)
            missing = [x for x in range(60) if group.lift(x, False) is None]
            self.assertTrue(missing)
            for x in missing:
                big = list(x.to_bytes(group.size, "big"))
                for data in ([2] + big, [3] + big):
                    with self.assertRaises(Malformed):
                        read_point(group, data)
                with self.assertRaises(Malformed):
                    read_x(group, big)

    def test_other_kind_comes_first(self):
        for name in EDWARDS:
            group = group_named(name)
            for data in ([], [0], [9], [2] * (group.size + 1), [0] * group.size, [255] * 70):
                for reader in READERS + (read_x,):
                    with self.assertRaises(OutOfRange):
                        reader(group, data)
            for value in (group.base, None, (0, 1), "point", (-1, -1)):
                for writer in (write_point, write_x):
                    with self.assertRaises(OutOfRange):
                        writer(group, value)
                with self.assertRaises(OutOfRange):
                    write_point(group, value, compressed=False)

    def test_what_is_no_byte_list(self):
        group = group_named("w11")
        for data in ([2, 256], [2, -1], [2.0, 0], [2, None], (2, 0), (0,), [False], "0", [4, 0, 266], [True], ["0"]):
            for reader in READERS:
                with self.assertRaises(Malformed):
                    reader(group, data)
        for data in ([256], [-11], [11], [0.0], [None], [False], (0,), "0"):
            with self.assertRaises(Malformed):
                read_x(group, data)


class OneCoordinateTest(unittest.TestCase):
    def test_small_groups(self):
        for group in [group_named(name) for name in SMALL] + [group_with_y_zero()]:
            points = all_points(group)[1:]
            for point in points:
                self.assertEqual(write_x(group, point), [point[0]])
            for x in range(256):
                even = [point for point in points if point[0] == x and point[1] % 2 == 0]
                if even:
                    self.assertEqual([read_x(group, [x])], even)
                else:
                    with self.assertRaises(Malformed):
                        read_x(group, [x])

    def test_other_lengths(self):
        for name in WEIERSTRASS:
            group = group_named(name)
            form = write_x(group, group.base)
            for data in ([], form[:-1], form[1:], form + [0], [0] + form, form + form, [2] + form):
                if len(data) != group.size:
                    with self.assertRaises(Malformed):
                        read_x(group, data)

    def test_every_list_of_two_bytes(self):
        group = group_named("w11")
        for data in itertools.product(range(256), repeat=2):
            with self.assertRaises(Malformed):
                read_x(group, list(data))
        group = group_named("w1021")
        read = 0
        for data in itertools.product(range(5), range(256)):
            point = group.lift(256 * data[0] + data[1], False)
            if point is None:
                with self.assertRaises(Malformed):
                    read_x(group, list(data))
            else:
                self.assertEqual(read_x(group, list(data)), point)
                self.assertEqual(write_x(group, point), list(data))
                read += 1
        self.assertEqual(read, (group.order - 1) // 2)

    def test_both_points_have_one_form(self):
        for name in WEIERSTRASS:
            group = group_named(name)
            for factor in (1, 2, 5):
                point = group.multiply(factor, group.base)
                form = list(point[0].to_bytes(group.size, "big"))
                self.assertEqual(write_x(group, point), form)
                self.assertEqual(write_x(group, group.negate(point)), form)
                self.assertEqual(read_x(group, form), point if point[1] % 2 == 0 else group.negate(point))


class EdwardsTest(unittest.TestCase):
    def check_all(self, group, size, lists):
        points = edwards_points(group.prime, group.curve.a, group.curve.d)
        expected = {bytes(edwards_form(group, size, point)): point for point in points}
        self.assertEqual(len(expected), len(points))
        found = 0
        for data in lists:
            if bytes(data) in expected:
                self.assertEqual(read_edwards(group, list(data)), expected[bytes(data)])
                found += 1
            else:
                with self.assertRaises(Malformed):
                    read_edwards(group, list(data))
        return found == len(points)

    def test_all_points_of_small_groups(self):
        for name, size in (("e13", 1), ("e29", 1), ("e61", 1), ("e241", 2), ("e1021", 2)):
            group = group_named(name)
            for point in edwards_points(group.prime, group.curve.a, group.curve.d):
                form = edwards_form(group, size, point)
                self.assertEqual(write_edwards(group, point), form)
                self.assertEqual(read_edwards(group, form), point)

    def test_every_list_of_one_and_of_two_bytes(self):
        lists = [data for length in range(3) for data in itertools.product(range(256), repeat=length)]
        for name, size in (("e13", 1), ("e29", 1), ("e61", 1), ("e241", 2), ("e1021", 2)):
            self.assertTrue(self.check_all(group_named(name), size, lists))

    def test_named_groups(self):
        for name, size in (("ed25519", 32), ("e65521", 3), ("e31", 4)):
            group = group_named(name)
            p = group.prime
            points = [(0, 1), (0, p - 1), group.base, group.negate(group.base), group.multiply(12345, group.base)]
            for point in points:
                form = edwards_form(group, size, point)
                self.assertEqual(write_edwards(group, point), form)
                self.assertEqual(read_edwards(group, form), point)
                turned = form[:-1] + [form[-1] ^ 128]
                if point[0] == 0:
                    with self.assertRaises(Malformed):
                        read_edwards(group, turned)
                else:
                    self.assertEqual(read_edwards(group, turned), group.negate(point))

    def test_published_form(self):
        group = group_named("ed25519")
        self.assertEqual(write_edwards(group, group.base), [0x58] + [0x66] * 31)
        self.assertEqual(write_edwards(group, (0, 1)), [1] + [0] * 31)

    def test_x_zero_with_the_highest_bit(self):
        for name, size in (("e13", 1), ("e241", 2), ("e65521", 3), ("e31", 4), ("ed25519", 32)):
            group = group_named(name)
            for y in (1, group.prime - 1):
                self.assertEqual(read_edwards(group, list(y.to_bytes(size, "little"))), (0, y))
                number = y + 2 ** (8 * size - 1)
                with self.assertRaises(Malformed):
                    read_edwards(group, list(number.to_bytes(size, "little")))

    def test_y_of_the_prime_and_more(self):
        for name, size in (("e13", 1), ("e61", 1), ("e241", 2), ("e65521", 3), ("e31", 4), ("ed25519", 32)):
            group = group_named(name)
            highest = 2 ** (8 * size - 1)
            for y in (0, 1, 2, group.base[1], group.prime - 1):
                for number in (y + group.prime, y + 2 * group.prime, highest - 1):
                    if group.prime <= number < highest:
                        for sign in (0, highest):
                            with self.assertRaises(Malformed):
                                read_edwards(group, list((number + sign).to_bytes(size, "little")))

    def test_lengths(self):
        for name in EDWARDS:
            group = group_named(name)
            form = write_edwards(group, group.base)
            for data in ([], form[:-1], form[1:], form + [0], [0] + form, form + form):
                with self.assertRaises(Malformed):
                    read_edwards(group, data)

    def test_what_is_no_point(self):
        for name in ("e13", "e241", "ed25519"):
            group = group_named(name)
            x, y = group.base
            p = group.prime
            wrong = [None, (x + p, y), (x, y + p), (x, y - p), (x, (y + 1) % p), [x, y], (x, y, 1), (0, 0)]
            for value in wrong + [value for value in ODD_VALUES if not group.has(value)]:
                with self.assertRaises(NotAPoint):
                    write_edwards(group, value)

    def test_other_kind_comes_first(self):
        for name in WEIERSTRASS:
            group = group_named(name)
            for value in (group.base, None, "point", (-1, -1)):
                with self.assertRaises(OutOfRange):
                    write_edwards(group, value)
            for data in ([], [0], [0] * 32, [255] * 99):
                with self.assertRaises(OutOfRange):
                    read_edwards(group, data)

    def test_bytes_that_no_bit_of_y_uses(self):
        # Over a prime of eight bits, seven bits of the last byte belong to no y.
        group = group_named("e241")
        form = write_edwards(group, group.base)
        for bit in (1, 2, 4, 64):
            with self.assertRaises(Malformed):
                read_edwards(group, [form[0], form[1] ^ bit])

    def test_another_curve(self):
        group = EdwardsGroup("other", EdwardsCurve(19, 5, 2), (0, 18), 2, 2)
        lists = [[byte] for byte in range(256)]
        self.assertTrue(self.check_all(group, 1, lists))

    def test_what_is_no_byte_list(self):
        group = group_named("e241")
        for data in ([1, 256], [257, 0], [-1, 0], [True, 0], (1, 0), "ab", [1, None]):
            with self.assertRaises(Malformed):
                read_edwards(group, data)

    def test_lists(self):
        for name in ("e13", "ed25519"):
            group = group_named(name)
            for point in ((0, 1), group.base):
                check_lists(self, write_edwards, group, point)
                check_lists(self, read_edwards, group, write_edwards(group, point))


if __name__ == "__main__":
    unittest.main()
