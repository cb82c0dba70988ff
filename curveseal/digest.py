"""Digests of messages, at once or in pieces."""

from curveseal.errors import OutOfRange
from curveseal.octets import to_big
from curveseal.rounds import Compressor, block_size, length_size

LONGEST = 1048576


def padding(kind, length):
    """Return the bytes that are appended to a message of this length."""
    size = block_size(kind)
    tail = length_size(kind)
    if length < 0 or length > LONGEST:
        raise OutOfRange("the length is not from 0 to 1048576")
    zeros = -(length + 1 + tail) % size
    return [128] + [0] * zeros + to_big(8 * length, tail)


def digest(kind, data):
    """Return the digest of a message."""
    return digest_parts(kind, [data])


def digest_parts(kind, parts):
    """Return the digest of joined parts."""
    compressor = Compressor(kind)
    return digest_with(compressor, joined(parts, LONGEST))


def joined(parts, longest):
    """Return the joined byte lists, which have at most so many bytes together."""
    if sum([len(part) for part in parts]) > longest:
        raise OutOfRange(f"there are more than {longest} bytes")
    return [byte for part in parts for byte in part]


def digest_with(compressor, data):
    """Return the digest of a message whose length was checked."""
    return _finished(compressor, compressor.start(), data, len(data))


def _finished(compressor, words, rest, length):
    """Return the digest of so many bytes, from the words before the rest of them."""
    last = _compressed(compressor, words, rest + padding(compressor.kind, length))
    return [byte for word in last for byte in to_big(word, compressor.word_size)]


def _compressed(compressor, words, data):
    """Return the words after all whole blocks of the data."""
    size = compressor.block_size
    result = words
    for at in range(0, len(data) - size + 1, size):
        result = compressor.compressed(result, data[at:at + size])
    return result


class Digester:
    """A digest of a message that comes in pieces."""

    def __init__(self, kind):
        self._compressor = Compressor(kind)
        self._words = self._compressor.start()
        # What is not a whole block yet.
        self._rest = []
        self._length = 0

    def add(self, data):
        """Append a piece to the message."""
        if self._length + len(data) > LONGEST:
            raise OutOfRange("the pieces have more than 1048576 bytes together")
        waiting = self._rest + data
        self._words = _compressed(self._compressor, self._words, waiting)
        self._rest = waiting[len(waiting) - len(waiting) % self._compressor.block_size:]
        self._length += len(data)

    def told(self):
        """Return the digest of all that was added so far."""
        return _finished(self._compressor, self._words, self._rest, self._length)

    def length(self):
        """Return how many bytes were added."""
        return self._length

    def twin(self):
        """Return an independent copy."""
        other = Digester(self._compressor.kind)
        other._words = list(self._words)
        other._rest = list(self._rest)
        other._length = self._length
        return other
