"""Schnorr signatures, over secp256k1 those of BIP 340."""

from curveseal.ecdsa import public_key
from curveseal.encoding import write_scalar
from curveseal.errors import Malformed
from curveseal.hashes import tagged
from curveseal.octets import from_big
from curveseal.points import read_x, write_x
from curveseal.signatures import read_x_signature, write_x_signature

MASK_TAG = "BIP0340/aux"
NONCE_TAG = "BIP0340/nonce"
CHALLENGE_TAG = "BIP0340/challenge"


def digest_scalar(group, tag, data):
    """Return the digest with a tag, as a scalar."""
    return from_big(tagged(tag, data)) % group.order


def nonzero_scalar(group, tag, data):
    """Return the digest with a tag as a scalar, but 1 in the place of 0."""
    return max(1, digest_scalar(group, tag, data))


def has_odd_y(point):
    """Tell whether the y of a point other than infinity is odd."""
    return point[1] & 1 == 1


def turned(group, number, point):
    """Return the number if the y of the point is even, and its negative modulo the order if it is odd."""
    return -number % group.order if has_odd_y(point) else number


def key_parts(group, secret):
    """Return the even secret and the key of a secret."""
    point = public_key(group, secret)
    return turned(group, secret, point), write_x(group, point)


def schnorr_key(group, secret):
    """Return the key of a secret."""
    return key_parts(group, secret)[1]


def even_secret(group, secret):
    """Return the secret or its negative, so that its multiple of the base has an even y."""
    return key_parts(group, secret)[0]


def schnorr_nonce(group, secret, message, extra):
    """Return the nonce of a signature."""
    even, key = key_parts(group, secret)
    return _nonce(group, even, key, message, extra)


def _nonce(group, even, key, message, extra):
    plain = write_scalar(group, even)
    mask = tagged(MASK_TAG, list(extra))
    masked = [byte ^ other for byte, other in zip(plain, mask)] + plain[len(mask):]
    return nonzero_scalar(group, NONCE_TAG, masked + key + message)


def challenge(group, form, key, message):
    """Return the challenge of the form of a nonce's point, a key and a message."""
    return digest_scalar(group, CHALLENGE_TAG, form + key + message)


def schnorr_sign(group, secret, message, *, extra=()):
    """Return the signature of a message."""
    even, key = key_parts(group, secret)
    nonce = _nonce(group, even, key, message, extra)
    point = group.multiply(nonce, group.base)
    e = challenge(group, write_x(group, point), key, message)
    return write_x_signature(group, point, (turned(group, nonce, point) + e * even) % group.order)


def read_entry(group, key, message, signature):
    """Return (the key's point, the nonce's point, the number s, the challenge), or None if one is not readable."""
    try:
        public = read_x(group, key)
        point, s = read_x_signature(group, signature)
    except Malformed:
        return None
    return public, point, s, challenge(group, signature[:group.size], key, message)


def schnorr_accepts(group, key, message, signature):
    """Tell whether a signature of a message is accepted under a key."""
    entry = read_entry(group, key, message, signature)
    if entry is None:
        return False
    public, point, s, e = entry
    return group.multiply(s, group.base) == group.add(point, group.multiply(e, public))
