"""Signatures of two numbers: ECDSA."""

from curveseal.encoding import check_kind
from curveseal.errors import OutOfRange, Refused
from curveseal.modular import inverse
from curveseal.nonce import NonceSource, leading_number

LEAST_ORDER = 3
LONGEST_DIGEST = 1024
MOST_NONCES = 256


def check_group(group):
    """Raise OutOfRange if signatures of two numbers are not made over this group."""
    check_kind(group, "weierstrass")
    if group.cofactor != 1 or group.order < LEAST_ORDER:
        raise OutOfRange("the cofactor is not 1, or the order is less than 3")


def check_number(group, number, role):
    """Raise OutOfRange if a secret, a nonce or a part of a signature is out of its bounds."""
    if number < 1 or number >= group.order:
        raise OutOfRange(f"the {role} is not from 1 to the order minus 1")


def message_number(group, digest):
    """Return the number of a digest."""
    check_group(group)
    if len(digest) > LONGEST_DIGEST:
        raise OutOfRange("the digest has more than 1024 bytes")
    return leading_number(digest, group.order.bit_length()) % group.order


def public_key(group, secret):
    """Return the public key of a secret, a point."""
    check_group(group)
    check_number(group, secret, "secret")
    return group.multiply(secret, group.base)


def sign_with(group, secret, nonce, digest):
    """Return the signature of a digest with this nonce, or None."""
    check_group(group)
    check_number(group, secret, "secret")
    check_number(group, nonce, "nonce")
    n = group.order
    e = message_number(group, digest)
    r = group.multiply(nonce, group.base)[0] % n
    s = (e + r * secret) * inverse(nonce, n) % n
    return None if r == 0 or s == 0 else (r, s)


def sign(group, secret, digest, hasher, *, extra=(), low=True):
    """Return the signature of a digest, with the first nonce that gives one."""
    check_group(group)
    check_number(group, secret, "secret")
    # The source checks the digest and the extra bytes.
    source = NonceSource(group.order, secret, hasher, digest, extra=extra)
    for _ in range(MOST_NONCES):
        signature = sign_with(group, secret, source.next_nonce(), digest)
        if signature is not None:
            return low_form(group, signature) if low else signature
    raise Refused("none of the first nonces gives a signature")


def is_signature(group, signature):
    """Tell whether both numbers are from 1 to the order minus 1."""
    r, s = signature
    return 1 <= r < group.order and 1 <= s < group.order


def accepts(group, public, digest, signature, *, low=False):
    """Tell whether a signature of a digest is accepted under a public key."""
    e = message_number(group, digest)
    if not is_signature(group, signature) or public is None or not group.has(public):
        return False
    n = group.order
    r, s = signature
    if low and not is_low(group, s):
        return False
    scale = inverse(s, n)
    ours = group.multiply(e * scale % n, group.base)
    theirs = group.multiply(r * scale % n, public)
    total = group.add(ours, theirs)
    return total is not None and total[0] % n == r


def is_low(group, s):
    """Tell whether s is at most half of the order."""
    check_group(group)
    check_number(group, s, "number")
    return s <= (group.order - 1) // 2


def low_form(group, signature):
    """Return the signature with the lower one of s and its negative."""
    r, s = signature
    return (r, s) if is_low(group, s) else (r, group.order - s)
