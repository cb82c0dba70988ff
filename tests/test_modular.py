"""Points 10 to 15 and 18: curveseal.modular."""

import itertools
import math
import unittest

from curveseal.errors import NoInverse, OutOfRange
from curveseal.modular import bezout, inverse, jacobi, join_residues, power, square_class, square_root

SMALL_PRIMES = [n for n in range(3, 260) if all(n % k for k in range(2, n))]

# Primes whose predecessors are divisible by 2 once, twice, and very often, up to 256 bits.
BIG_PRIMES = (
    2 ** 16 + 1,
    2 ** 31 - 1,
    15 * 2 ** 27 + 1,
    2 ** 64 - 2 ** 32 + 1,
    2 ** 89 - 1,
    2 ** 127 - 1,
    3 * 2 ** 189 + 1,
    2 ** 224 - 2 ** 96 + 1,
    2 ** 252 + 27742317777372353535851937790883648493,
    2 ** 255 - 19,
    0x73eda753299d7d483339d80809a1d80553bda402fffe5bfeffffffff00000001,
    2 ** 256 - 2 ** 224 + 2 ** 192 + 2 ** 96 - 1,
    2 ** 256 - 2 ** 32 - 977,
    0xffffffff00000000ffffffffffffffffbce6faada7179e84f3b9cac2fc632551,
    0xfffffffffffffffffffffffffffffffebaaedce6af48a03bbfd25e8cd0364141,
)

LONG = (3 ** 9001 + 2, -(7 ** 6007), 2 ** 20011 - 5, -(2 ** 15000), 10 ** 5000, 6 ** 4000, -(15 ** 5003))


def some_numbers(count, modulus):
    """Return numbers that are spread over the residues of the modulus."""
    return [(at * at * at + 12345) * 0x9e3779b97f4a7c15f39cc0605cedc834 ** 3 % modulus for at in range(count)]


def rows(a, b):
    """Point 11 from its last row upwards, instead of from its first one downwards."""
    if b == 0:
        return (a, 1, 0)
    g, x, y = rows(b, a % b)
    return (g, y, x - (a // b) * y)


def expected_bezout(a, b):
    g, x, y = rows(a, b)
    return (-g, -x, -y) if g < 0 else (g, x, y)


def prime_factors(n):
    """Return the prime factors of n, each as often as it occurs."""
    for k in range(2, n + 1):
        if n % k == 0:
            return [k] + prime_factors(n // k)
    return []


def counted_class(a, prime):
    """Return the square class by trying all squares."""
    if a % prime == 0:
        return 0
    return 1 if a % prime in [x * x % prime for x in range(prime)] else -1


class BezoutTest(unittest.TestCase):
    def test_example(self):
        self.assertEqual(bezout(12, 18), (6, -1, 1))

    def test_exact_numbers(self):
        self.assertEqual(bezout(0, 0), (0, 1, 0))
        self.assertEqual(bezout(5, 0), (5, 1, 0))
        self.assertEqual(bezout(-5, 0), (5, -1, 0))
        self.assertEqual(bezout(0, 5), (5, 0, 1))
        self.assertEqual(bezout(0, -5), (5, 0, -1))
        self.assertEqual(bezout(4, 4), (4, 0, 1))
        self.assertEqual(bezout(240, 46), (2, -9, 47))
        self.assertEqual(bezout(1, 1), (1, 0, 1))

    def test_all_small_pairs(self):
        for a, b in itertools.product(range(-45, 46), repeat=2):
            self.assertEqual(bezout(a, b), expected_bezout(a, b))
            g, x, y = bezout(a, b)
            self.assertEqual((g, a * x + b * y), (math.gcd(a, b), g))

    def test_long_numbers(self):
        for a, b in itertools.product(LONG, LONG + (0, 1, -1, 12)):
            g, x, y = bezout(a, b)
            self.assertEqual(g, math.gcd(a, b))
            self.assertEqual(a * x + b * y, g)
            self.assertIs(type(bezout(a, b)), tuple)

    def test_exact_numbers_of_long_pairs(self):
        for a, b in ((3 ** 300, 7 ** 190), (-(2 ** 401), 3 ** 250), (5 ** 170, -(6 ** 150)), (-(10 ** 99), -(6 ** 99))):
            self.assertEqual(bezout(a, b), expected_bezout(a, b))


class InverseTest(unittest.TestCase):
    def test_examples(self):
        self.assertEqual(inverse(-3, 11), 7)
        self.assertEqual(inverse(3, 7), 5)
        self.assertEqual(inverse(1, 2), 1)

    def test_all_small_moduli(self):
        for modulus in range(2, 60):
            for a in range(-2 * modulus, 2 * modulus + 1):
                if math.gcd(a, modulus) == 1:
                    found = inverse(a, modulus)
                    self.assertTrue(0 <= found < modulus)
                    self.assertEqual(found * a % modulus, 1)
                else:
                    with self.assertRaises(NoInverse):
                        inverse(a, modulus)

    def test_long_numbers(self):
        for a in LONG:
            for modulus in (2 ** 521 - 1, 3 ** 4000, 2 ** 9001, 35):
                if math.gcd(a, modulus) == 1:
                    self.assertEqual(inverse(a, modulus), pow(a, -1, modulus))
                else:
                    with self.assertRaises(NoInverse):
                        inverse(a, modulus)


class PowerTest(unittest.TestCase):
    def test_small_numbers(self):
        for modulus in range(2, 20):
            for a in range(-25, 26):
                for exponent in range(20):
                    self.assertEqual(power(a, exponent, modulus), a ** exponent % modulus)

    def test_exponent_zero(self):
        for a in (0, 1, -1, 7, 14, -7, 10 ** 400):
            for modulus in (2, 7, 10 ** 90):
                self.assertEqual(power(a, 0, modulus), 1)

    def test_exponents_of_600_bits(self):
        for exponent in (2 ** 600 - 1, 2 ** 599, 2 ** 599 + 1, 3 ** 378):
            for modulus in (2, 3, 97, 2 ** 255 - 19, 2 ** 600 - 1, 2 ** 64, 3 ** 2000):
                for a in (0, 1, -1, 2, -5, 3 ** 700):
                    self.assertEqual(power(a, exponent, modulus), pow(a, exponent, modulus))


class SquareClassTest(unittest.TestCase):
    def test_small_primes(self):
        for prime in SMALL_PRIMES[:25]:
            for a in range(-prime, 2 * prime + 1):
                self.assertEqual(square_class(a, prime), counted_class(a, prime))

    def test_big_primes(self):
        for prime in BIG_PRIMES:
            other = next(n for n in itertools.count(2) if pow(n, (prime - 1) // 2, prime) == prime - 1)
            for a in some_numbers(6, prime):
                self.assertEqual(square_class(a * a, prime), 1)
                self.assertEqual(square_class(a * a * other, prime), -1)
                self.assertEqual(square_class(a * a * other - prime * 7 ** 99, prime), -1)
            for multiple in (0, prime, -prime, 5 * prime, prime ** 3, -(10 ** 500) * prime):
                self.assertEqual(square_class(multiple, prime), 0)


class JacobiTest(unittest.TestCase):
    def test_product_of_the_square_classes(self):
        for n in range(1, 160, 2):
            parts = prime_factors(n)
            for a in range(-170, 171):
                expected = math.prod(counted_class(a, prime) for prime in parts)
                self.assertEqual(jacobi(a, n), expected)

    def test_one(self):
        for a in (0, 1, -1, 2, 100, -(10 ** 300)):
            self.assertEqual(jacobi(a, 1), 1)

    def test_zero(self):
        for n in (3, 9, 15, 49, 10 ** 60 + 1):
            self.assertEqual(jacobi(0, n), 0)

    def test_composite(self):
        self.assertEqual(jacobi(2, 15), 1)
        self.assertEqual(jacobi(7, 15), -1)
        self.assertEqual(jacobi(2, 9), 1)
        self.assertEqual(jacobi(3, 9), 0)
        self.assertEqual(jacobi(-1, 21), 1)
        self.assertEqual(jacobi(-1, 15), -1)

    def test_numbers_that_are_not_odd_and_positive(self):
        for n in (0, 2, 4, 100, 10 ** 40, -1, -2, -3, -15, -(10 ** 40) - 1):
            for a in (0, 1, 3, -7):
                with self.assertRaises(OutOfRange):
                    jacobi(a, n)

    def test_long_numbers(self):
        lower = math.prod(BIG_PRIMES) ** 3
        for a in some_numbers(8, 10 ** 4000) + [-(3 ** 5000)]:
            signs = [1 if pow(a, (p - 1) // 2, p) == 1 else -1 for p in BIG_PRIMES]
            self.assertEqual(jacobi(a, lower), math.prod(signs))
            self.assertEqual(jacobi(a, lower ** 2), 1)
            self.assertEqual(jacobi(a * BIG_PRIMES[0], lower), 0)


class SquareRootTest(unittest.TestCase):
    def test_example(self):
        self.assertEqual(square_root(5, 11), 4)

    def test_small_primes(self):
        for prime in SMALL_PRIMES:
            roots = {}
            for x in range(prime):
                roots.setdefault(x * x % prime, x)
            for a in list(range(prime)) + [-1, -2, -prime, prime, prime + 1, 2 * prime + 2]:
                self.assertEqual(square_root(a, prime), roots.get(a % prime))

    def test_big_primes(self):
        for prime in BIG_PRIMES:
            for x in some_numbers(5, prime) + [1, 2, 3, (prime - 1) // 2]:
                smaller = min(x % prime, -x % prime)
                self.assertEqual(square_root(x * x, prime), smaller)
                self.assertEqual(square_root(x * x % prime - prime, prime), smaller)

    def test_numbers_of_every_order_that_is_a_power_of_two(self):
        for prime in BIG_PRIMES:
            odd, twos = prime - 1, 0
            while odd % 2 == 0:
                odd, twos = odd // 2, twos + 1
            other = next(n for n in itertools.count(2) if pow(n, (prime - 1) // 2, prime) == prime - 1)
            x = pow(other, odd, prime)
            for _ in range(twos):
                self.assertEqual(square_root(x * x % prime, prime), min(x, prime - x))
                x = x * x % prime

    def test_numbers_without_a_root(self):
        for prime in BIG_PRIMES:
            other = next(n for n in itertools.count(2) if pow(n, (prime - 1) // 2, prime) == prime - 1)
            for x in some_numbers(4, prime) + [1]:
                self.assertIsNone(square_root(x * x * other, prime))
                self.assertIsNone(square_root(x * x * other - 3 * prime, prime))

    def test_multiples_of_the_prime(self):
        for prime in BIG_PRIMES + (3, 5, 7):
            for multiple in (0, prime, -prime, 12 * prime, prime ** 2):
                self.assertEqual(square_root(multiple, prime), 0)


class JoinResiduesTest(unittest.TestCase):
    def test_empty(self):
        self.assertEqual(join_residues([]), 0)

    def test_small_moduli(self):
        for moduli in (
            (2, 3), (3, 2), (4, 9), (5, 1), (1, 5), (1, 1), (7, 3, 4), (1, 5, 1, 6), (2, 3, 5, 7), (1,), (9,),
        ):
            product = math.prod(moduli)
            for expected in range(product):
                pairs = [(expected % modulus, modulus) for modulus in moduli]
                self.assertEqual(join_residues(pairs), expected)

    def test_order_does_not_matter(self):
        pairs = [(2, 3), (3, 5), (2, 7), (0, 1), (1, 4)]
        for order in itertools.permutations(pairs):
            self.assertEqual(join_residues(list(order)), 233)

    def test_common_divisors(self):
        for moduli in ((2, 2), (4, 6), (6, 4), (3, 5, 9), (9, 5, 3), (7, 5, 7), (35, 1, 21), (10 ** 50, 2)):
            for residues in ([0] * len(moduli), [1] * len(moduli), range(len(moduli))):
                with self.assertRaises(NoInverse):
                    join_residues([(r % m, m) for r, m in zip(residues, moduli)])

    def test_many_big_moduli(self):
        number = 3 ** 1500
        moduli = list(BIG_PRIMES) + SMALL_PRIMES[:48] + [2 ** 13]
        self.assertEqual(len(moduli), 64)
        pairs = [(number % modulus, modulus) for modulus in moduli]
        kept = list(pairs)
        self.assertEqual(join_residues(pairs), number % math.prod(moduli))
        self.assertEqual(pairs, kept)


if __name__ == "__main__":
    unittest.main()
