"""Points 1 and 2, and the functions of curveseal.octets."""

import unittest

from curveseal.errors import Malformed, OutOfRange
from curveseal.octets import ascii_codes, from_big, from_digits, from_little, is_bytes, to_big, to_digits, to_little
from values import ODD_VALUES

SIZES = (0, 1, 2, 3, 7, 8, 9, 32, 33, 66, 521, 4095, 4096)


class NumbersTest(unittest.TestCase):
    def test_example(self):
        self.assertEqual(to_big(258, 3), [0, 1, 2])

    def test_written_values(self):
        self.assertEqual(to_little(258, 3), [2, 1, 0])
        self.assertEqual(to_big(0, 0), [])
        self.assertEqual(to_little(0, 0), [])
        self.assertEqual(to_big(0, 1), [0])
        self.assertEqual(to_little(0, 2), [0, 0])
        self.assertEqual(to_big(255, 1), [255])
        self.assertEqual(to_little(256, 2), [0, 1])
        self.assertEqual(to_big(256, 2), [1, 0])

    def test_all_numbers_of_two_bytes(self):
        for number in range(65536):
            self.assertEqual(to_big(number, 2), [number // 256, number % 256])
            self.assertEqual(to_little(number, 2), [number % 256, number // 256])

    def test_greatest_number_fits_and_the_next_one_does_not(self):
        for size in SIZES:
            greatest = 256 ** size - 1
            for write in (to_big, to_little):
                with self.subTest(size=size, write=write.__name__):
                    self.assertEqual(write(greatest, size), [255] * size)
                    with self.assertRaises(OutOfRange):
                        write(greatest + 1, size)
                    with self.assertRaises(OutOfRange):
                        write(greatest * 256 + 1, size)

    def test_negative_numbers_do_not_fit(self):
        for size in SIZES:
            for number in (-1, -2, -255, -256, -(256 ** size)):
                for write in (to_big, to_little):
                    with self.assertRaises(OutOfRange):
                        write(number, size)

    def test_written_as_python_writes_them(self):
        for size in SIZES:
            number = (7 ** (3 * size + 1)) % 256 ** size
            self.assertEqual(to_big(number, size), list(number.to_bytes(size, "big")))
            self.assertEqual(to_little(number, size), list(number.to_bytes(size, "little")))

    def test_read_as_python_reads_them(self):
        for size in SIZES:
            data = [(at * at + 3 * at + size) % 256 for at in range(size)]
            self.assertEqual(from_big(data), int.from_bytes(bytes(data), "big"))
            self.assertEqual(from_little(data), int.from_bytes(bytes(data), "little"))

    def test_read_values(self):
        self.assertEqual(from_big([]), 0)
        self.assertEqual(from_little([]), 0)
        self.assertEqual(from_big([0, 0, 1]), 1)
        self.assertEqual(from_little([0, 0, 1]), 65536)
        self.assertEqual(from_big([1, 0]), 256)
        self.assertEqual(from_little([1, 0]), 1)
        for byte in range(256):
            self.assertEqual(from_big([byte]), byte)
            self.assertEqual(from_little([byte]), byte)

    def test_arguments_stay(self):
        data = [1, 2, 3, 0]
        self.assertEqual(from_big(data), 0x01020300)
        self.assertEqual(from_little(data), 0x030201)
        self.assertEqual(to_digits(data), "01020300")
        self.assertTrue(is_bytes(data))
        self.assertEqual(data, [1, 2, 3, 0])

    def test_returned_lists_are_new(self):
        for make in (
            lambda: to_big(5, 3),
            lambda: to_little(5, 3),
            lambda: to_big(0, 0),
            lambda: from_digits("0a0b"),
            lambda: ascii_codes("abc"),
        ):
            first = make()
            kept = list(first)
            first.append(9)
            self.assertEqual(make(), kept)
            self.assertIs(type(first), list)


class DigitsTest(unittest.TestCase):
    def test_each_byte(self):
        for byte in range(256):
            text = "0123456789abcdef"[byte // 16] + "0123456789abcdef"[byte % 16]
            self.assertEqual(to_digits([byte]), text)
            self.assertEqual(from_digits(text), [byte])

    def test_lists(self):
        self.assertEqual(to_digits([]), "")
        self.assertEqual(from_digits(""), [])
        self.assertEqual(to_digits([0, 10, 255, 1]), "000aff01")
        self.assertEqual(from_digits("000aff01"), [0, 10, 255, 1])
        data = [(7 * at) % 256 for at in range(4096)]
        self.assertEqual(from_digits(to_digits(data)), data)

    def test_odd_lengths(self):
        for text in ("0", "a", "012", "0123456789abcde"):
            with self.assertRaises(Malformed):
                from_digits(text)

    def test_example_with_a_capital_digit(self):
        with self.assertRaises(Malformed):
            from_digits("0A")

    def test_other_characters(self):
        for code in list(range(300)) + [0x0660, 0xFF11, 0x1D7CE]:
            character = chr(code)
            if character not in "0123456789abcdef":
                for text in (character + "0", "0" + character, "00" + character + "0"):
                    with self.assertRaises(Malformed):
                        from_digits(text)

    def test_pairs_that_are_a_part_of_the_digits(self):
        for text in ("0x", "x0", "+1", "-1", " 1", "1 ", "1_", "\n0"):
            with self.assertRaises(Malformed):
                from_digits(text)


class IsBytesTest(unittest.TestCase):
    def test_byte_lists(self):
        for value in ([], [0], [255], [0, 255, 7], list(range(256)), [1] * 5000):
            self.assertIs(is_bytes(value), True)

    def test_items_out_of_range(self):
        for item in (-1, 256, 1000, -256, 10 ** 40):
            for value in ([item], [0, item], [item, 0], [0, item, 0]):
                self.assertIs(is_bytes(value), False)

    def test_items_of_other_kinds(self):
        for item in (True, False, None, 1.0, 0.0, "1", "a", b"a", [1], (1,), {}, set()):
            for value in ([item], [0, item], [item, 0]):
                self.assertIs(is_bytes(value), False)

    def test_values_of_other_kinds(self):
        for value in (
            None, True, False, 0, 1, 1.5, "", "abc", b"", b"abc", bytearray(b"ab"), (), (1,), (1, 2),
            {}, {1: 2}, set(), {1}, frozenset((1,)), range(3), object(), len, list,
        ):
            self.assertIs(is_bytes(value), False)

    def test_values_of_every_kind_give_a_bool(self):
        for value in ODD_VALUES:
            expected = type(value) is list and all(type(item) is int and 0 <= item < 256 for item in value)
            self.assertIs(is_bytes(value), expected)


class AsciiCodesTest(unittest.TestCase):
    def test_every_character(self):
        for code in range(0, 400):
            character = chr(code)
            if 32 <= code <= 126 and character != "%":
                self.assertEqual(ascii_codes(character), [code])
            else:
                with self.assertRaises(Malformed):
                    ascii_codes(character)

    def test_edges(self):
        self.assertEqual(ascii_codes(" "), [32])
        self.assertEqual(ascii_codes("~"), [126])
        for text in ("%", "\n", "\t", "\x7f", "\x1f", "\r", "\x00"):
            with self.assertRaises(Malformed):
                ascii_codes(text)

    def test_texts(self):
        self.assertEqual(ascii_codes(""), [])
        self.assertEqual(ascii_codes("Abc 09~"), [65, 98, 99, 32, 48, 57, 126])

    def test_wrong_characters_at_every_place(self):
        for bad in ("%", "\n", "\t", "\u00e9", "\u20ac", "\U0001f600", "\u0660"):
            for text in (bad + "ab", "a" + bad + "b", "ab" + bad):
                with self.assertRaises(Malformed):
                    ascii_codes(text)


if __name__ == "__main__":
    unittest.main()
