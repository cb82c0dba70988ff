"""Orders of points, and numbers of points."""

from math import isqrt

from curveseal.errors import OutOfRange, Refused

# This is 2^16; the points of curves over greater primes are not counted.
COUNT_LIMIT = 65536

MOST_ORDERS = 1024


def count_points(curve):
    """Return the number of points of a short Weierstrass curve, infinity included."""
    p = curve.prime
    if p >= COUNT_LIMIT:
        raise OutOfRange("the prime is not less than 2^16")
    roots = [0] * p
    for y in range(p):
        roots[y * y % p] += 1
    return 1 + sum([roots[(x * x * x + curve.a * x + curve.b) % p] for x in range(p)])


def point_order(group, point, multiple, primes):
    """Return the order of a point from a multiple of it and the primes that divide the multiple."""
    neutral = group.neutral()
    if group.multiply(multiple, point) != neutral:
        raise Refused("the number is no multiple of the order")
    order = multiple
    for prime in primes:
        while order % prime == 0 and group.multiply(order // prime, point) == neutral:
            order = order // prime
    return order


def allowed_orders(prime, n):
    """Return the ascending multiples of n that may be the number of points over the prime."""
    if n < 1:
        raise OutOfRange("the number is less than 1")
    # Twice the square root of the prime, rounded down.
    reach = isqrt(4 * prime)
    first = (prime - reach) // n + 1
    last = (prime + 1 + reach) // n
    if last - first + 1 > MOST_ORDERS:
        raise OutOfRange("there are more than 1024 multiples")
    return [n * times for times in range(first, last + 1)]
