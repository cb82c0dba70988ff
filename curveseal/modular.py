"""Residues: inverses, powers, squares and square roots."""

from curveseal.errors import NoInverse, OutOfRange
from curveseal.octets import is_whole


def is_residue(value, modulus):
    """Tell whether a value of any kind is a residue of the modulus."""
    return is_whole(value) and 0 <= value < modulus


def is_residue_pair(value, modulus):
    """Tell whether a value of any kind is a tuple of two residues."""
    return isinstance(value, tuple) and len(value) == 2 and all([is_residue(item, modulus) for item in value])


def bezout(a, b):
    """Return (g, x, y) with g = a * x + b * y, the greatest common divisor."""
    first, second = (a, 1, 0), (b, 0, 1)
    while second[0] != 0:
        times = first[0] // second[0]
        rest = (
            first[0] - times * second[0],
            first[1] - times * second[1],
            first[2] - times * second[2],
        )
        first, second = second, rest
    if first[0] < 0:
        return (-first[0], -first[1], -first[2])
    return first


def inverse(a, modulus):
    """Return the residue whose product with a is congruent to 1."""
    divisor, factor, _ = bezout(a % modulus, modulus)
    if divisor != 1:
        raise NoInverse("the number and the modulus have a common divisor")
    return factor % modulus


def power(a, exponent, modulus):
    """Return the residue of a to the power exponent."""
    result = 1 % modulus
    square = a % modulus
    rest = exponent
    while rest > 0:
        if rest & 1 == 1:
            result = result * square % modulus
        square = square * square % modulus
        rest = rest >> 1
    return result


def square_class(a, prime):
    """Return 0 for a congruent to 0, 1 for other squares, otherwise -1."""
    if a % prime == 0:
        return 0
    if power(a, (prime - 1) // 2, prime) == 1:
        return 1
    return -1


def jacobi(a, n):
    """Return the Jacobi symbol of a and an odd positive n."""
    if n < 1 or n % 2 == 0:
        raise OutOfRange("the lower number is not odd and positive")
    sign = 1
    upper, lower = a % n, n
    while upper != 0:
        upper, twos = split_twos(upper)
        if twos % 2 == 1 and lower % 8 in (3, 5):
            sign = -sign
        if upper % 4 == 3 and lower % 4 == 3:
            sign = -sign
        upper, lower = lower % upper, upper
    return sign if lower == 1 else 0


def split_twos(number):
    """Return the odd part of a positive number, and how often 2 divides it."""
    twos = (number & -number).bit_length() - 1
    return number >> twos, twos


def square_root(a, prime):
    """Return the smaller square root of a modulo the prime, or None."""
    kind = square_class(a, prime)
    if kind == -1:
        return None
    if kind == 0:
        return 0
    root = _root_of_square(a, prime)
    return min(root, prime - root)


def _root_of_square(a, prime):
    """Return a square root of a number whose square class is 1."""
    odd, twos = split_twos(prime - 1)
    # The square of root is always a * rest; the steps below bring rest to 1.
    root = power(a, (odd + 1) // 2, prime)
    rest = power(a, odd, prime)
    if twos < 2:
        return root
    helper = power(_non_square(prime), odd, prime)
    for level in range(twos - 2, -1, -1):
        # Here the order of rest divides 2^(level + 1), and that of helper is 2^(level + 2).
        if power(rest, 1 << level, prime) != 1:
            root = root * helper % prime
            rest = rest * helper * helper % prime
        helper = helper * helper % prime
    return root


def _non_square(prime):
    number = 2
    while square_class(number, prime) != -1:
        number += 1
    return number


def root_with_parity(a, prime, odd):
    """Return the square root of a that is odd exactly if odd is True, or None."""
    root = square_root(a, prime)
    if root is None or root % 2 == int(odd):
        return root
    # The prime is odd, so the other root has the other parity; 0 has no other root.
    return prime - root if root != 0 else None


def join_residues(pairs):
    """Return the residue of the product of the moduli that is congruent to each residue."""
    joined, product = 0, 1
    for residue, modulus in pairs:
        step = (residue - joined) * inverse(product, modulus) % modulus
        joined += product * step
        product *= modulus
    return joined
