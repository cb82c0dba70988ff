"""The examples of the document."""

import unittest

from curveseal.digest import digest
from curveseal.errors import Malformed
from curveseal.hashes import Sha256
from curveseal.modular import bezout, inverse, square_root
from curveseal.named import group_named
from curveseal.nonce import NonceSource, leading_number
from curveseal.octets import from_digits, to_big
from curveseal.papers import make_paper, paper_prime
from curveseal.schemes import scheme_named
from curveseal.ways import signed_digits


class ExamplesTest(unittest.TestCase):
    def test_numbers(self):
        self.assertEqual(to_big(258, 3), [0, 1, 2])
        with self.assertRaises(Malformed):
            from_digits("0A")
        self.assertEqual(bezout(12, 18), (6, -1, 1))
        self.assertEqual(inverse(-3, 11), 7)
        self.assertEqual(square_root(5, 11), 4)
        self.assertEqual(make_paper(7), (7, 3, ((1, (2,)), (1, (3, 2, ((1, (2,)),))))))
        self.assertIsNone(paper_prime((9, 2, ((3, (2,)),))))

    def test_groups(self):
        self.assertEqual(group_named("w11").add((0, 10), (0, 10)), (5, 10))
        self.assertEqual(signed_digits(15, 2), [-1, 0, 0, 0, 1])
        self.assertEqual(group_named("e13").multiply(5, (10, 9)), (0, 1))
        self.assertIsNone(group_named("e13").lift(1, True))

    def test_digests_and_nonces(self):
        self.assertEqual(digest("sha256", [1, 2, 3])[:4], [3, 144, 88, 198])
        self.assertEqual(digest("sha512", [1, 2, 3])[:4], [39, 134, 76, 197])
        self.assertEqual(leading_number([255, 1], 12), 4080)
        hasher = Sha256()
        source = NonceSource(251, 7, hasher, hasher.digest([115, 97, 109, 112, 108, 101]))
        self.assertEqual([source.next_nonce() for count in range(4)], [223, 241, 233, 249])

    def test_schemes(self):
        with self.assertRaises(Malformed):
            scheme_named("eddsa-p256")
        self.assertEqual(scheme_named("ecdsa-w11").public(1), [2, 0])


if __name__ == "__main__":
    unittest.main()
