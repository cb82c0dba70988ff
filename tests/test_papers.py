"""Points 16 and 17: curveseal.papers."""

import unittest

from curveseal.errors import OutOfRange, Refused
from curveseal.papers import factors, is_prime, make_paper, paper_prime
from values import ODD_VALUES

LIMIT = 2 ** 24
LAST_PRIME = LIMIT - 3
TWO = (2,)
THREE = (3, 2, ((1, TWO),))
FIVE = (5, 2, ((2, TWO),))
SEVEN = (7, 3, ((1, TWO), (1, THREE)))


def sieve(limit):
    """Return the primes below the limit."""
    marks = [True] * limit
    for n in range(2, limit):
        for k in range(n * n, limit, n):
            marks[k] = False
    return [n for n in range(2, limit) if marks[n]]


PRIMES = sieve(3000)


def is_int(value):
    return type(value) is int


def shown(paper):
    """Point 16 word by word, for numbers so small that every power can be tried."""
    if type(paper) is not tuple:
        return None
    if paper == TWO and is_int(paper[0]):
        return 2
    if len(paper) != 3 or not is_int(paper[0]) or not is_int(paper[1]) or type(paper[2]) is not tuple:
        return None
    p, g, parts = paper
    if p < 3 or not 1 <= g <= p - 1:
        return None
    product, last = 1, 0
    for part in parts:
        if type(part) is not tuple or len(part) != 2 or not is_int(part[0]) or not 1 <= part[0] < 100:
            return None
        prime = shown(part[1])
        if prime is None or prime <= last:
            return None
        last = prime
        product *= prime ** part[0]
        if (p - 1) % prime != 0 or pow(g, (p - 1) // prime, p) == 1:
            return None
    return p if product == p - 1 and pow(g, p - 1, p) == 1 else None


def changed(value):
    """Yield values that differ from a value of tuples and integers in one part."""
    yield from ODD_VALUES
    if type(value) is int:
        for step in (-2, -1, 1, 2, 3, 4, value, -value):
            yield value + step
        yield float(value)
        yield (value,)
        return
    yield list(value)
    yield value + (1,)
    yield value + value
    for at, item in enumerate(value):
        yield value[:at] + value[at + 1:]
        yield value[:at] + (item, item) + value[at + 1:]
        for other in changed(item):
            yield value[:at] + (other,) + value[at + 1:]
        for to in range(at):
            yield value[:to] + (item,) + value[to + 1:at] + (value[to],) + value[at + 1:]


class FactorsTest(unittest.TestCase):
    def test_values(self):
        self.assertEqual(factors(1), [])
        self.assertEqual(factors(2), [(2, 1)])
        self.assertEqual(factors(12), [(2, 2), (3, 1)])
        self.assertEqual(factors(8192), [(2, 13)])
        self.assertEqual(factors(4093 * 4093), [(4093, 2)])
        self.assertEqual(factors(4091 * 4093), [(4091, 1), (4093, 1)])
        self.assertEqual(factors(2 * LAST_PRIME // 2), [(LAST_PRIME, 1)])
        self.assertEqual(factors(LIMIT - 1), [(3, 2), (5, 1), (7, 1), (13, 1), (17, 1), (241, 1)])
        self.assertEqual(factors(LIMIT // 2), [(2, 23)])

    def test_all_small_numbers(self):
        for n in range(1, 3000):
            found = factors(n)
            product = 1
            for prime, exponent in found:
                self.assertIn(prime, PRIMES)
                self.assertGreaterEqual(exponent, 1)
                product *= prime ** exponent
            self.assertEqual(product, n)
            self.assertEqual([prime for prime, _ in found], sorted({prime for prime, _ in found}))

    def test_bounds(self):
        for n in (0, -1, -12, LIMIT, LIMIT + 1, 10 ** 30):
            with self.assertRaises(OutOfRange):
                factors(n)


class IsPrimeTest(unittest.TestCase):
    def test_all_small_numbers(self):
        for n in range(-50, 3000):
            self.assertIs(is_prime(n), n in PRIMES)

    def test_squares_of_primes(self):
        for prime in PRIMES[:400]:
            self.assertIs(is_prime(prime * prime), False)

    def test_bounds(self):
        self.assertIs(is_prime(LIMIT - 1), False)
        self.assertIs(is_prime(LAST_PRIME), True)
        self.assertIs(is_prime(-(10 ** 30)), False)
        self.assertIs(is_prime(-LAST_PRIME), False)
        for n in (LIMIT, LIMIT + 1, LIMIT + 43, 10 ** 30):
            with self.assertRaises(OutOfRange):
                is_prime(n)


class MakePaperTest(unittest.TestCase):
    def test_example(self):
        self.assertEqual(make_paper(7), (7, 3, ((1, (2,)), (1, (3, 2, ((1, (2,)),))))))

    def test_values(self):
        self.assertEqual(make_paper(2), TWO)
        self.assertEqual(make_paper(3), THREE)
        self.assertEqual(make_paper(5), FIVE)
        self.assertEqual(make_paper(17), (17, 3, ((4, TWO),)))
        self.assertEqual(make_paper(41), (41, 6, ((3, TWO), (1, FIVE))))
        self.assertEqual(make_paper(191), (191, 19, ((1, TWO), (1, FIVE), (1, make_paper(19)))))

    def test_papers_are_good_and_least(self):
        for prime in PRIMES[1:250]:
            p, g, parts = make_paper(prime)
            self.assertEqual(shown((p, g, parts)), prime)
            for less in range(1, g):
                self.assertIsNone(shown((p, less, parts)))
            self.assertEqual(parts, tuple([(k, make_paper(q)) for q, k in factors(prime - 1)]))

    def test_bounds(self):
        self.assertEqual(make_paper(LAST_PRIME)[0], LAST_PRIME)
        for n in (1, 0, -1, -7, LIMIT, LIMIT + 43, 10 ** 30):
            with self.assertRaises(OutOfRange):
                make_paper(n)

    def test_numbers_that_are_no_primes(self):
        for n in (4, 6, 9, 15, 561, 2047, 4093 * 4093, LIMIT - 1):
            with self.assertRaises(Refused):
                make_paper(n)


class PaperPrimeTest(unittest.TestCase):
    def test_example(self):
        self.assertIsNone(paper_prime((9, 2, ((3, (2,)),))))

    def test_papers_that_were_made(self):
        for prime in PRIMES[:400] + [65537, LAST_PRIME]:
            self.assertEqual(paper_prime(make_paper(prime)), prime)

    def test_every_suitable_g(self):
        for prime in PRIMES[1:25]:
            parts = make_paper(prime)[2]
            powers = {g: len({pow(g, k, prime) for k in range(prime)}) for g in range(1, prime)}
            for g in range(-prime, 2 * prime):
                expected = prime if powers.get(g) == prime - 1 else None
                self.assertEqual(paper_prime((prime, g, parts)), expected)

    def test_changed_papers(self):
        good = 0
        for prime in (2, 3, 5, 7, 13, 31, 37, 43, 61, 71, 211, 421):
            for paper in changed(make_paper(prime)):
                self.assertEqual(paper_prime(paper), shown(paper), paper)
                good += shown(paper) is not None
        self.assertGreater(good, 100)

    def test_values_of_every_kind(self):
        for value in ODD_VALUES:
            self.assertIsNone(paper_prime(value))
            for other in ODD_VALUES:
                self.assertIsNone(paper_prime((value, other)))
                self.assertIsNone(paper_prime((value, 1, other)))
                self.assertIsNone(paper_prime((7, value, other)))
                self.assertIsNone(paper_prime((7, 3, (value, other))))
                self.assertIsNone(paper_prime((7, 3, ((1, value), (1, other)))))
                self.assertIsNone(paper_prime((7, 3, ((value, TWO), (other, TWO)))))

    def test_two_has_no_other_paper(self):
        for paper in (
            (2, 1, ()), (2, 1, ((1, TWO),)), (2, 0, ()), (2, 1), (2, 2), (2, 1, ((0, TWO),)), (True,), (2.0,),
        ):
            self.assertIsNone(paper_prime(paper))

    def test_numbers_that_are_no_primes(self):
        for paper in (
            (1, 0, ()), (0, 0, ()), (-2, 1, ()), (-7, 3, SEVEN[2]), (1, 1, ()), (4, 3, ((1, THREE),)),
            (15, 2, ((1, TWO), (1, SEVEN))), (9, 2, ((3, TWO),)), (9, 8, ((3, TWO),)), (8, 3, ((1, SEVEN),)),
        ):
            self.assertIsNone(paper_prime(paper))

    def test_exponents(self):
        self.assertEqual(paper_prime((5, 3, ((2, TWO),))), 5)
        for exponent in (-1, 0, 1, 3, 4, True, 2.0, 2 ** 599, -(2 ** 599)):
            self.assertIsNone(paper_prime((5, 3, ((exponent, TWO),))))
        for paper in ((5, 3, ((2, TWO), (0, THREE))), (7, 3, ((1, TWO), (1, THREE), (0, FIVE)))):
            self.assertIsNone(paper_prime(paper))
        for paper in ((5, 3, ((1, TWO), (1, TWO))), (19, 2, ((1, TWO), (1, THREE), (1, THREE)))):
            self.assertIsNone(paper_prime(paper))

    def test_parts_in_another_order(self):
        self.assertEqual(paper_prime((7, 5, ((1, TWO), (1, THREE)))), 7)
        self.assertIsNone(paper_prime((7, 5, ((1, THREE), (1, TWO)))))

    def test_parts_that_are_left_out(self):
        self.assertIsNone(paper_prime((7, 3, ((1, THREE),))))
        self.assertIsNone(paper_prime((7, 3, ((1, TWO),))))
        self.assertIsNone(paper_prime((7, 3, ())))

    def test_lists_are_no_papers(self):
        for paper in (
            [7, 3, SEVEN[2]], (7, 3, list(SEVEN[2])), (7, 3, ([1, TWO], (1, THREE))), (7, 3, ((1, [2]), (1, THREE))),
        ):
            self.assertIsNone(paper_prime(paper))


class DeepPaperTest(unittest.TestCase):
    def chain(self):
        """Return papers of growing primes, each of which is a part of the next one."""
        papers = [make_paper(7)]
        while len(papers) < 38:
            papers.append(self.next_paper(papers[-1]))
        return papers

    def next_paper(self, paper):
        q = paper[0]
        for k in range(1, 4000):
            p = 2 * k * q + 1
            if 2 * k < q and pow(2, p - 1, p) == 1:
                found = [(exponent, make_paper(prime)) for prime, exponent in factors(2 * k)]
                parts = tuple(found + [(1, paper)])
                for g in range(2, 60):
                    if all(pow(g, (p - 1) // part[1][0], p) != 1 for part in parts) and pow(g, p - 1, p) == 1:
                        return (p, g, parts)
        raise AssertionError("no next prime was found")

    def test_chain(self):
        papers = self.chain()
        for paper in papers:
            self.assertEqual(paper_prime(paper), paper[0])
            p, g, parts = paper
            for wrong in ((p + 2, g, parts), (p, 1, parts), (p, p - 1, parts), (p, g, parts[:-1]), (p, g, parts[1:])):
                self.assertIsNone(paper_prime(wrong))

    def test_a_fault_deep_inside(self):
        def spoiled(paper):
            if len(paper) == 1 or paper[0] == 7:
                return (7, 2, SEVEN[2])
            p, g, parts = paper
            return (p, g, parts[:-1] + ((parts[-1][0], spoiled(parts[-1][1])),))
        for paper in self.chain():
            self.assertIsNone(paper_prime(spoiled(paper)))


class LongPaperTest(unittest.TestCase):
    def long_paper(self, k, twos):
        p = k * 2 ** twos + 1
        parts = tuple([(twos, TWO)] + [(e, make_paper(q)) for q, e in factors(k)])
        for g in range(2, 90):
            if all(pow(g, (p - 1) // q, p) != 1 for q in [2] + [q for q, _ in factors(k)]):
                return (p, g, parts)
        raise AssertionError("no number of full order was found")

    def test_long_primes(self):
        for k, twos in ((3, 189), (3, 408), (3, 534), (15, 27), (49, 594)):
            paper = self.long_paper(k, twos)
            self.assertEqual(paper_prime(paper), k * 2 ** twos + 1)
            p, g, parts = paper
            self.assertIsNone(paper_prime((p, g, ((twos - 1, TWO),) + parts[1:])))
            self.assertIsNone(paper_prime((p, g, ((twos + 1, TWO),) + parts[1:])))
            self.assertIsNone(paper_prime((p, g, parts[:1])))

    def test_papers_have_at_most_600_bits(self):
        longest = self.long_paper(49, 594)
        self.assertEqual(longest[0].bit_length(), 600)
        self.assertEqual(paper_prime(longest), longest[0])
        too_long = self.long_paper(233, 593)
        self.assertEqual(too_long[0].bit_length(), 601)
        self.assertIsNone(paper_prime(too_long))


if __name__ == "__main__":
    unittest.main()
