"""The classes of errors."""

import unittest

from curveseal import errors

KINDS = ("OutOfRange", "Malformed", "NotAPoint", "NoInverse", "Refused", "BadLine")


class ErrorsTest(unittest.TestCase):
    def test_base_class(self):
        self.assertEqual(errors.CurveError.__bases__, (ValueError,))

    def test_every_kind_derives_from_the_base_class_itself(self):
        for name in KINDS:
            with self.subTest(name=name):
                self.assertEqual(getattr(errors, name).__bases__, (errors.CurveError,))

    def test_kinds_are_caught_as_curve_error(self):
        for name in KINDS:
            with self.subTest(name=name):
                with self.assertRaises(errors.CurveError):
                    raise getattr(errors, name)(3)

    def test_bad_line_keeps_its_number(self):
        for number in (1, 2, 900):
            error = errors.BadLine(number)
            self.assertEqual(error.line, number)
            self.assertIs(type(error.line), int)

    def test_bad_line_has_its_number_when_it_is_caught(self):
        with self.assertRaises(errors.BadLine) as caught:
            raise errors.BadLine(12)
        self.assertEqual(caught.exception.line, 12)


if __name__ == "__main__":
    unittest.main()
