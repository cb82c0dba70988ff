"""Small primes, and the papers that show that a number is a prime."""

from curveseal.errors import OutOfRange, Refused
from curveseal.modular import power
from curveseal.octets import is_whole

# This is 2^24; below it primes and factors are found by trying divisors.
LIMIT = 16777216

PAPER_BITS = 600


def factors(n):
    """Return the ascending pairs (prime, exponent) of a number from 1 on."""
    if n < 1 or n >= LIMIT:
        raise OutOfRange("the number is not from 1 to 2^24 - 1")
    found = []
    rest = n
    divisor = 2
    while divisor * divisor <= rest:
        times, rest = _divide_out(rest, divisor)
        if times > 0:
            found.append((divisor, times))
        divisor += 1
    if rest > 1:
        found.append((rest, 1))
    return found


def _divide_out(number, divisor):
    """Return how often the divisor divides a positive number, and what is left."""
    times = 0
    rest = number
    while rest % divisor == 0:
        rest = rest // divisor
        times += 1
    return times, rest


def is_prime(n):
    """Tell whether a number less than 2^24 is a prime."""
    if n >= LIMIT:
        raise OutOfRange("the number is not less than 2^24")
    return n > 1 and factors(n) == [(n, 1)]


def make_paper(prime):
    """Return the paper of a prime, with the smallest possible numbers."""
    if prime < 2 or prime >= LIMIT:
        raise OutOfRange("the number is not from 2 to 2^24 - 1")
    if not is_prime(prime):
        raise Refused("the number is no prime")
    if prime == 2:
        return (2,)
    found = factors(prime - 1)
    divisors = [divisor for divisor, _ in found]
    g = 1
    while not _has_full_order(g, prime, divisors):
        g += 1
    return (prime, g, tuple([(times, make_paper(divisor)) for divisor, times in found]))


def _has_full_order(g, prime, divisors):
    """Tell whether prime - 1 is the least exponent by which g becomes 1.

    The divisors are all prime divisors of prime - 1.
    """
    if power(g, prime - 1, prime) != 1:
        return False
    for divisor in divisors:
        if power(g, (prime - 1) // divisor, prime) == 1:
            return False
    return True


def paper_prime(paper):
    """Return the prime that a good paper shows, and None for every other value."""
    if not isinstance(paper, tuple):
        return None
    if len(paper) == 1:
        return 2 if is_whole(paper[0]) and paper[0] == 2 else None
    if len(paper) != 3:
        return None
    prime, g, parts = paper
    # Without the bound on the prime, 2 would have a second paper: (2, 1, ()).
    if not _is_paper_number(prime) or not _is_paper_number(g) or prime < 3:
        return None
    if g < 1 or g >= prime:
        return None
    divisors = _shown_divisors(parts, prime - 1)
    if divisors is None or not _has_full_order(g, prime, divisors):
        return None
    return prime


def _is_paper_number(value):
    return is_whole(value) and value.bit_length() <= PAPER_BITS


def _shown_divisors(parts, product):
    """Return the primes of the parts if they are all prime factors of the product, else None."""
    if not isinstance(parts, tuple):
        return None
    divisors = []
    rest = product
    for part in parts:
        if not isinstance(part, tuple) or len(part) != 2 or not is_whole(part[0]):
            return None
        divisor = paper_prime(part[1])
        if divisor is None or (len(divisors) > 0 and divisor <= divisors[-1]):
            return None
        times, rest = _divide_out(rest, divisor)
        if times == 0 or times != part[0]:
            return None
        divisors.append(divisor)
    return divisors if rest == 1 else None
