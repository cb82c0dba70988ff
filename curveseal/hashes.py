"""Hashers, keyed digests and tagged digests."""

from curveseal.digest import LONGEST, Digester, digest_with, joined
from curveseal.errors import OutOfRange
from curveseal.octets import ascii_codes
from curveseal.rounds import Compressor, digest_size

# Less than the longest message by the longest block, and by the two digests of a tag.
LONGEST_KEYED = 1048448
LONGEST_TAGGED = 1048512

LONGEST_TAG = 64

INNER = 54
OUTER = 92


def key_block(kind, key):
    """Return the block of a key."""
    return _block_of_key(Compressor(kind), joined([key], LONGEST))


def _block_of_key(compressor, key):
    short = digest_with(compressor, key) if len(key) > compressor.block_size else key
    return short + [0] * (compressor.block_size - len(short))


def _keyed_with(compressor, key, parts):
    """Return the keyed digest of joined parts."""
    whole_key = joined([key], LONGEST)
    message = joined(parts, LONGEST_KEYED)
    block = _block_of_key(compressor, whole_key)
    inner = digest_with(compressor, [byte ^ INNER for byte in block] + message)
    return digest_with(compressor, [byte ^ OUTER for byte in block] + inner)


class HasherFields:
    """The fields of a hasher of either kind."""

    def __init__(self, name):
        # The hasher keeps the numbers of its kind, because computing them takes as long as a block or two.
        self._compressor = Compressor(name)
        self.name = name
        self.size = digest_size(name)
        self.block_size = self._compressor.block_size


class Sha256(HasherFields):
    """The hasher of the kind sha256."""

    def __init__(self):
        super().__init__("sha256")

    def digest(self, data):
        """Return the digest of a message."""
        return digest_with(self._compressor, joined([data], LONGEST))

    def digest_parts(self, parts):
        """Return the digest of joined parts."""
        return digest_with(self._compressor, joined(parts, LONGEST))

    def keyed(self, key, data):
        """Return the keyed digest of a message."""
        return _keyed_with(self._compressor, key, [data])

    def keyed_parts(self, key, parts):
        """Return the keyed digest of joined parts."""
        return _keyed_with(self._compressor, key, parts)

    def pieces(self):
        """Return a new Digester of this kind."""
        return Digester(self.name)


class Sha512(HasherFields):
    """The hasher of the kind sha512."""

    def __init__(self):
        super().__init__("sha512")

    def digest(self, data):
        """Return the digest of a message."""
        return digest_with(self._compressor, joined([data], LONGEST))

    def digest_parts(self, parts):
        """Return the digest of joined parts."""
        return digest_with(self._compressor, joined(parts, LONGEST))

    def keyed(self, key, data):
        """Return the keyed digest of a message."""
        return _keyed_with(self._compressor, key, [data])

    def keyed_parts(self, key, parts):
        """Return the keyed digest of joined parts."""
        return _keyed_with(self._compressor, key, parts)

    def pieces(self):
        """Return a new Digester of this kind."""
        return Digester(self.name)


def tagged(tag, data):
    """Return the tagged digest of a message."""
    codes = ascii_codes(tag)
    if len(codes) < 1 or len(codes) > LONGEST_TAG:
        raise OutOfRange("the tag does not have 1 to 64 characters")
    message = joined([data], LONGEST_TAGGED)
    compressor = Compressor("sha256")
    mark = digest_with(compressor, codes)
    return digest_with(compressor, mark + mark + message)
