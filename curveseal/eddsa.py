"""EdDSA signatures, over ed25519 those of RFC 8032."""

from curveseal.digest import digest
from curveseal.encoding import edwards_size
from curveseal.errors import Malformed, OutOfRange, Refused
from curveseal.octets import ascii_codes, from_little, is_bytes
from curveseal.points import read_edwards, write_edwards
from curveseal.signatures import read_edwards_signature, write_edwards_signature

DOMAIN_TEXT = "SigEd25519 no Ed25519 collisions"

PREFIX_SIZE = 32
LONGEST_CONTEXT = 255


def _digest(data):
    return digest("sha512", data)


def _digest_scalar(group, data):
    """Return the digest of some data as a scalar."""
    return from_little(_digest(data)) % group.order


def seed_parts(group, seed):
    """Return the secret scalar and the prefix of a seed."""
    size = edwards_size(group)
    if len(seed) != size:
        raise OutOfRange(f"the seed does not have {size} bytes")
    parts = _digest(seed)
    top = 1 << (group.prime.bit_length() - 1)
    number = from_little(parts[:size]) % top
    return top + number - number % group.cofactor, parts[-PREFIX_SIZE:]


def eddsa_key(group, seed):
    """Return the key of a seed."""
    return _key(group, seed_parts(group, seed)[0])


def _key(group, scalar):
    return write_edwards(group, group.multiply(scalar, group.base))


def variant_parts(variant, message):
    """Return the domain and the text of a variant and a message."""
    if variant == ("pure",):
        return [], list(message)
    if not isinstance(variant, tuple) or len(variant) != 2 or not is_bytes(variant[1]):
        raise Refused("there is no such variant")
    kind, data = variant
    if kind == "context" and 1 <= len(data) <= LONGEST_CONTEXT:
        return _domain(0, data), list(message)
    if kind == "prehashed" and len(data) <= LONGEST_CONTEXT:
        return _domain(1, data), _digest(message)
    raise Refused("there is no such variant, or its data have another length")


def _domain(mark, data):
    return ascii_codes(DOMAIN_TEXT) + [mark, len(data)] + data


def eddsa_sign(group, seed, message, *, variant=("pure",)):
    """Return the signature of a message."""
    scalar, prefix = seed_parts(group, seed)
    domain, text = variant_parts(variant, message)
    nonce = _digest_scalar(group, domain + prefix + text)
    point = group.multiply(nonce, group.base)
    k = _digest_scalar(group, domain + write_edwards(group, point) + _key(group, scalar) + text)
    return write_edwards_signature(group, point, (nonce + k * scalar) % group.order)


def eddsa_difference(group, key, message, signature, *, variant=("pure",)):
    """Return the difference of a signature, the neutral point if all is right, or None if it is not readable."""
    domain, text = variant_parts(variant, message)
    try:
        public = read_edwards(group, key)
        point, s = read_edwards_signature(group, signature)
    except Malformed:
        return None
    k = _digest_scalar(group, domain + signature[:edwards_size(group)] + key + text)
    total = group.add(point, group.multiply(k, public))
    return group.add(group.multiply(s, group.base), group.negate(total))


def eddsa_accepts(group, key, message, signature, *, cofactored=True, variant=("pure",)):
    """Tell whether a signature is accepted, in the cofactored or in the exact way."""
    difference = eddsa_difference(group, key, message, signature, variant=variant)
    if difference is None:
        return False
    if cofactored:
        return group.is_small(difference)
    return difference == group.neutral()


def is_weak_key(group, key):
    """Tell whether a key is the form of a small point."""
    try:
        return group.is_small(read_edwards(group, key))
    except Malformed:
        return False
