"""Points 70 and 77 to 80: curveseal.tagged."""

import itertools
import unittest

from curveseal.errors import Malformed, OutOfRange
from curveseal.tagged import (
    read_length, read_pair, read_tree, write_length, write_number, write_pair, write_tree,
)
from lists import check_lists

LENGTHS = {
    0: [0], 1: [1], 2: [2], 126: [126], 127: [127],
    128: [129, 128], 129: [129, 129], 254: [129, 254], 255: [129, 255],
    256: [130, 1, 0], 257: [130, 1, 1], 4096: [130, 16, 0], 65534: [130, 255, 254], 65535: [130, 255, 255],
}
NUMBERS = [0, 1, 2, 126, 127, 128, 129, 255, 256, 257]
for exponent in (8, 15, 16, 23, 24, 63, 64, 255, 256, 504, 511, 512, 519):
    NUMBERS += [2 ** exponent - 1, 2 ** exponent, 2 ** exponent + 1]
NUMBERS += [2 ** 520 - 2, 2 ** 520 - 1]


def part(tag, content):
    """Return the form of a part, with the length of point 77."""
    size = len(content)
    if size < 128:
        return [tag, size] + content
    if size < 256:
        return [tag, 129, size] + content
    return [tag, 130, size // 256, size % 256] + content


def content_of_number(number):
    """Return the fewest bytes whose number is this one, and whose first byte is less than 128."""
    size = next(size for size in itertools.count(1) if number < 256 ** size // 2)
    return list(number.to_bytes(size, "big"))


def form(value):
    if isinstance(value, tuple):
        return part(48, [byte for item in value for byte in form(item)])
    return part(2, content_of_number(value))


def nested(levels, inner=()):
    """Return a value with so many tuples around the inner items."""
    value = tuple(inner)
    for _ in range(levels - 1):
        value = (value,)
    return value


class LengthTest(unittest.TestCase):
    def test_edges(self):
        for size, data in LENGTHS.items():
            self.assertEqual(write_length(size), data)
            self.assertEqual(read_length(data, 0), (size, len(data)))
            self.assertEqual(read_length([9, 9, 9] + data + [9, 9], 3), (size, len(data) + 3))
            self.assertIs(type(read_length(data, 0)), tuple)

    def test_all_lengths(self):
        for size in range(65536):
            data = write_length(size)
            self.assertEqual(data, part(0, [0] * size)[1:len(data) + 1] if size < 600 else [130, *divmod(size, 256)])
            self.assertEqual(read_length(data, 0), (size, len(data)))

    def test_lengths_that_are_not_written(self):
        for size in (-1, -2, -128, 65536, 65537, 2 ** 24, 2 ** 70, -(2 ** 70)):
            with self.assertRaises(OutOfRange):
                write_length(size)

    def test_not_the_shortest_form(self):
        for data in ([129, 0], [129, 1], [129, 127], [130, 0, 0], [130, 0, 127], [130, 0, 128], [130, 0, 255]):
            with self.assertRaises(Malformed):
                read_length(data, 0)
            with self.assertRaises(Malformed):
                read_length([7] + data + [0] * 300, 1)

    def test_not_complete(self):
        for data in ([], [129], [130], [130, 1], [130, 200]):
            with self.assertRaises(Malformed):
                read_length(data, 0)
        for at in (1, 2, 100):
            with self.assertRaises(Malformed):
                read_length([5], at)
        with self.assertRaises(Malformed):
            read_length([130, 1, 0, 129], 3)

    def test_first_bytes(self):
        for first in range(128, 256):
            for rest in ([], [200], [1, 0], [200, 200], [0, 1, 0], [0] * 130):
                if first not in (129, 130):
                    with self.assertRaises(Malformed):
                        read_length([first] + rest, 0)

    def test_every_list_of_up_to_three_bytes(self):
        # What is read has the very bytes up to the index behind it as its form.
        lists = list(itertools.product(range(256), range(256)))
        lists += [(first, second, third) for first in (128, 129, 130, 131) for second in range(256) for third in (0, 9)]
        for data in lists:
            try:
                size, behind = read_length(list(data), 0)
            except Malformed:
                continue
            self.assertEqual(write_length(size), list(data[:behind]))

    def test_lists(self):
        check_lists(self, write_length, 300)
        check_lists(self, read_length, [1, 130, 1, 1], 1)


class NumberTest(unittest.TestCase):
    def test_numbers(self):
        for number in NUMBERS:
            data = form(number)
            self.assertEqual(write_number(number), data)
            self.assertEqual(write_tree(number), data)
            self.assertEqual(read_tree(data), number)

    def test_written_out(self):
        self.assertEqual(write_number(0), [2, 1, 0])
        self.assertEqual(write_number(127), [2, 1, 127])
        self.assertEqual(write_number(128), [2, 2, 0, 128])
        self.assertEqual(write_number(256), [2, 2, 1, 0])
        self.assertEqual(write_number(32767), [2, 2, 127, 255])
        self.assertEqual(write_number(32768), [2, 3, 0, 128, 0])
        self.assertEqual(write_number(2 ** 520 - 1), [2, 66, 0] + [255] * 65)
        self.assertEqual(write_number(2 ** 519 - 1), [2, 65, 127] + [255] * 64)

    def test_numbers_out_of_range(self):
        for number in (-1, -2, -128, -(2 ** 520), 2 ** 520, 2 ** 520 + 1, 2 ** 521 - 1, 2 ** 521, 2 ** 600):
            with self.assertRaises(OutOfRange):
                write_number(number)
            with self.assertRaises(OutOfRange):
                write_tree(number)
            with self.assertRaises(OutOfRange):
                write_tree((1, (number,)))
            with self.assertRaises(OutOfRange):
                write_pair(number, 1)
            with self.assertRaises(OutOfRange):
                write_pair(1, number)

    def test_contents_that_are_refused(self):
        contents = ([], [128], [255], [128, 0], [255] * 65, [0, 0], [0, 1], [0, 127], [0, 0, 128], [0, 127, 255])
        contents += ([0] * 66, [1] + [0] * 65, [127] * 66, [0, 128] + [0] * 65, [0, 0, 128] + [0] * 64, [1] * 300)
        contents += ([1] * 60000, [0] * 65535)
        for content in contents:
            data = part(2, content)
            for wrong in (data, part(48, data)):
                with self.assertRaises(Malformed):
                    read_tree(wrong)
            for wrong in (part(48, data + form(1)), part(48, form(1) + data)):
                with self.assertRaises(Malformed):
                    read_pair(wrong)

    def test_every_content_of_up_to_two_bytes(self):
        for length in range(3):
            for content in itertools.product(range(256), repeat=length):
                data = part(2, list(content))
                number = int.from_bytes(bytes(content), "big")
                if content_of_number(number) == list(content):
                    self.assertEqual(read_tree(data), number)
                else:
                    with self.assertRaises(Malformed):
                        read_tree(data)

    def test_lists(self):
        check_lists(self, write_number, 0)
        check_lists(self, write_number, 2 ** 500)


class PairTest(unittest.TestCase):
    def test_pairs(self):
        for first, second in itertools.product(NUMBERS, repeat=2):
            data = part(48, form(first) + form(second))
            self.assertEqual(write_pair(first, second), data)
            self.assertEqual(read_pair(data), (first, second))
        self.assertIs(type(read_pair(write_pair(1, 2))), tuple)
        self.assertEqual(write_pair(1, 128), [48, 7, 2, 1, 1, 2, 2, 0, 128])

    def test_long_lengths(self):
        # Two numbers of 66 bytes make a content of 136 bytes.
        self.assertEqual(write_pair(2 ** 520 - 1, 2 ** 519)[:3], [48, 129, 136])

    def test_what_is_no_pair(self):
        for value in (0, 1, 300, (), (1,), (1, 2, 3), (1, 2, 3, 4), ((1, 2),), ((1,), 2), (1, (2,)), ((), ()), (1, ())):
            with self.assertRaises(Malformed):
                read_pair(form(value))

    def test_other_tags(self):
        good = form(5)
        for tag in range(256):
            wrong = []
            if tag != 48:
                wrong.append(part(tag, good + good))
            if tag != 2:
                wrong += [part(48, [tag] + good[1:] + good), part(48, good + [tag] + good[1:])]
            for data in wrong:
                with self.assertRaises(Malformed):
                    read_pair(data)
                if tag not in (2, 48):
                    with self.assertRaises(Malformed):
                        read_tree(data)

    def test_cut_and_longer_lists(self):
        for pair in ((0, 0), (1, 128), (2 ** 256 - 1, 2 ** 255), (2 ** 520 - 1, 2 ** 520 - 1)):
            data = write_pair(*pair)
            for length in range(len(data)):
                with self.assertRaises(Malformed):
                    read_pair(data[:length])
                with self.assertRaises(Malformed):
                    read_tree(data[:length])
            for behind in ([0], [2, 1, 0], data, [48, 0]):
                with self.assertRaises(Malformed):
                    read_pair(data + behind)
                with self.assertRaises(Malformed):
                    read_tree(data + behind)

    def test_content_that_ends_within_a_part(self):
        for content in ([2], [2, 1], [2, 1, 1, 2], [2, 1, 1, 2, 1], [2, 1, 1, 2, 2, 1], [2, 129], [2, 1, 1, 2, 130, 1]):
            with self.assertRaises(Malformed):
                read_pair(part(48, content))
            with self.assertRaises(Malformed):
                read_tree(part(48, content))
            # The bytes behind the sequence do not complete the part.
            with self.assertRaises(Malformed):
                read_pair(part(48, content) + [1] * 3)

    def test_changed_bytes(self):
        # Whatever is read has the very list that was given as its written form.
        data = write_pair(200, 70000)
        for at, byte in itertools.product(range(len(data)), range(256)):
            changed = data[:at] + [byte] + data[at + 1:]
            try:
                pair = read_pair(changed)
            except Malformed:
                continue
            self.assertEqual(write_pair(*pair), changed)

    def test_lengths_in_another_form(self):
        for data in ([48, 129, 6, 2, 1, 1, 2, 1, 2], [48, 130, 0, 6, 2, 1, 1, 2, 1, 2], [48, 7, 2, 129, 1, 1, 2, 1, 2]):
            with self.assertRaises(Malformed):
                read_pair(data)
            with self.assertRaises(Malformed):
                read_tree(data)

    def test_what_is_no_byte_list(self):
        for data in ((48, 6, 2, 1, 1, 2, 1, 2), [48, 6, 2, 1, True, 2, 1, 2], [48, 6, 2, 1, 256, 2, 1, 2], "", [None]):
            with self.assertRaises(Malformed):
                read_pair(data)
            with self.assertRaises(Malformed):
                read_tree(data)

    def test_lists(self):
        check_lists(self, write_pair, 1, 2)
        check_lists(self, read_pair, write_pair(1, 2))


class TreeTest(unittest.TestCase):
    def test_trees(self):
        values = [
            (), (0,), ((),), ((), ()), (1, (2, (3,), ()), 2 ** 300), ((((1,),),), 2), (128, 255, (256, (65536,))),
            tuple(range(50)), (tuple(range(10)), tuple(range(10)), ()), tuple([2 ** 519] * 5),
        ]
        for value in values:
            self.assertEqual(write_tree(value), form(value))
            self.assertEqual(read_tree(form(value)), value)
        self.assertEqual(write_tree(()), [48, 0])
        self.assertEqual(read_tree([48, 0]), ())
        self.assertEqual(write_tree((1, ())), [48, 5, 2, 1, 1, 48, 0])

    def test_levels(self):
        for levels in range(1, 9):
            for inner in ((), (5,), (1, 2)):
                value = nested(levels, inner)
                self.assertEqual(write_tree(value), form(value))
                self.assertEqual(read_tree(form(value)), value)
                beside = (1, (), *value, 2)
                self.assertEqual(read_tree(write_tree(beside)), beside)

    def test_too_many_levels(self):
        for levels in (9, 10, 11, 20, 100):
            for inner in ((), (5,), (1, 2)):
                value = nested(levels, inner)
                for wrong in (value, (1, value), ((), 2, *value)):
                    with self.assertRaises(OutOfRange):
                        write_tree(wrong)
                    with self.assertRaises(Malformed):
                        read_tree(form(wrong))

    def test_parts(self):
        # The outermost sequence is a part, too.
        for value in (tuple(range(63)), tuple([()] * 63), (tuple(range(30)), tuple(range(31))), tuple([(1, 2)] * 21)):
            self.assertEqual(read_tree(write_tree(value)), value)
            self.assertEqual(write_tree(value), form(value))
            for more in (value + (0,), value + ((),), (value,), (value, 3), value + ((1, 2, 3),)):
                with self.assertRaises(OutOfRange):
                    write_tree(more)
                with self.assertRaises(Malformed):
                    read_tree(form(more))

    def test_many_more_parts(self):
        for value in (tuple([1] * 65), tuple([1] * 1000), tuple([(1,) * 8] * 8), tuple([()] * 20000)):
            with self.assertRaises(OutOfRange):
                write_tree(value)
            with self.assertRaises(Malformed):
                read_tree(form(value))

    def test_nothing_behind_the_value(self):
        for value in (0, 300, (), (1, 2), ((1,), ())):
            data = form(value)
            for behind in ([0], [2], [48], [48, 0], [2, 1, 0], [255], data):
                with self.assertRaises(Malformed):
                    read_tree(data + behind)
        with self.assertRaises(Malformed):
            read_tree([])

    def test_every_list_of_up_to_three_bytes(self):
        for length in range(4):
            for data in itertools.product((0, 1, 2, 3, 48, 49, 127, 128, 129, 130, 255), repeat=length):
                expected = {(48, 0): ()}
                expected.update({(2, 1, number): number for number in range(128)})
                if data in expected:
                    self.assertEqual(read_tree(list(data)), expected[data])
                else:
                    with self.assertRaises(Malformed):
                        read_tree(list(data))

    def test_changed_bytes(self):
        data = write_tree((1, (200, ()), 70000))
        for at, byte in itertools.product(range(len(data)), range(256)):
            changed = data[:at] + [byte] + data[at + 1:]
            try:
                value = read_tree(changed)
            except Malformed:
                continue
            self.assertEqual(write_tree(value), changed)

    def test_lists(self):
        check_lists(self, write_tree, (1, (2,), ()))
        check_lists(self, read_tree, write_tree((1, (2,), ())))


if __name__ == "__main__":
    unittest.main()
