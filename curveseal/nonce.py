"""Nonces that are derived from a secret and a digest."""

from curveseal.errors import OutOfRange
from curveseal.octets import from_big, to_big

MOST_BITS = 521
LONGEST_DATA = 2048
LONGEST_DIGEST = 1024
LONGEST_EXTRA = 1024

# So many candidates in a row may fail; the next one is brought into the range.
TRIES = 64


def leading_number(data, bits):
    """Return the number of the first bits of a byte list."""
    if len(data) > LONGEST_DATA:
        raise OutOfRange("there are more than 2048 bytes")
    if bits < 1 or bits > MOST_BITS:
        raise OutOfRange("the number of bits is not from 1 to 521")
    return from_big(data) >> max(0, 8 * len(data) - bits)


class NonceSource:
    """A generator of nonces for an order, a secret and a digest."""

    def __init__(self, order, secret, hasher, data, *, extra=()):
        if order < 2 or order.bit_length() > MOST_BITS:
            raise OutOfRange("the order is not from 2 to 2^521 - 1")
        if secret < 1 or secret >= order:
            raise OutOfRange("the secret is not from 1 to the order minus 1")
        if len(data) > LONGEST_DIGEST:
            raise OutOfRange("the digest has more than 1024 bytes")
        if len(extra) > LONGEST_EXTRA:
            raise OutOfRange("there are more than 1024 extra bytes")
        self._order = order
        self._hasher = hasher
        self._key = [0] * hasher.size
        self._value = [1] * hasher.size
        seed = _seed(order, secret, data) + list(extra)
        self._stir([0] + seed)
        self._stir([1] + seed)

    def _stir(self, data):
        """Derive the next key from the data, and the next value from this key."""
        self._key = self._hasher.keyed(self._key, self._value + data)
        self._update_value()

    def _update_value(self):
        self._value = self._hasher.keyed(self._key, self._value)

    def _candidate(self):
        """Return a number of as many bits as the order has, and go on."""
        bits = self._order.bit_length()
        data = []
        while 8 * len(data) < bits:
            self._update_value()
            data = data + self._value
        self._stir([0])
        return leading_number(data, bits)

    def next_nonce(self):
        """Return the next nonce, from 1 to the order minus 1."""
        for _ in range(TRIES):
            candidate = self._candidate()
            if 1 <= candidate < self._order:
                return candidate
        return self._candidate() % (self._order - 1) + 1

    def twin(self):
        """Return an independent copy."""
        # The state with which the copy is made is replaced at once.
        other = NonceSource(self._order, 1, self._hasher, [])
        other._key = list(self._key)
        other._value = list(self._value)
        return other

    def state(self):
        """Return the key and the value as tuples of bytes."""
        return (tuple(self._key), tuple(self._value))


def _seed(order, secret, data):
    """Return the bytes of a secret and a digest that begin the seed."""
    bits = order.bit_length()
    size = (bits + 7) // 8
    return to_big(secret, size) + to_big(leading_number(data, bits) % order, size)
