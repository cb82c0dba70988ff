"""The public keys under which a signature of two numbers is accepted."""

from curveseal.ecdsa import check_group, check_number, is_signature, message_number
from curveseal.errors import Refused
from curveseal.modular import inverse


def signature_points(group, r):
    """Return the pairs (hint, point) of the points whose x-coordinate is r modulo the order."""
    check_group(group)
    check_number(group, r, "number")
    found = []
    for times, x in enumerate(range(r, group.prime, group.order)):
        for odd in (False, True):
            point = group.lift(x, odd)
            if point is not None:
                found.append((2 * times + int(odd), point))
    return found


def _points(group, signature):
    """Return the pairs (hint, point) of a signature, none if its numbers are out of range."""
    if not is_signature(group, signature):
        return []
    return signature_points(group, signature[0])


def _key(group, e, signature, point):
    """Return the key that belongs to a point of a signature; it may be infinity."""
    r, s = signature
    # The sum is divided as a whole, because the order of the point may be another one
    # than that of the base.
    total = group.add(group.multiply(s, point), group.multiply(-e, group.base))
    return group.multiply(inverse(r, group.order), total)


def recover_keys(group, digest, signature):
    """Return the pairs (hint, key) of the keys of a signature, ascending by the hint."""
    e = message_number(group, digest)
    keys = [(hint, _key(group, e, signature, point)) for hint, point in _points(group, signature)]
    return [(hint, key) for hint, key in keys if key is not None]


def recover_key(group, digest, signature, hint):
    """Return the key of a signature that has this hint."""
    e = message_number(group, digest)
    for other, point in _points(group, signature):
        if other == hint:
            key = _key(group, e, signature, point)
            if key is not None:
                return key
    raise Refused("the signature has no key with this hint")


def find_hint(group, public, digest, signature):
    """Return the hint whose key is the public one."""
    for hint, key in recover_keys(group, digest, signature):
        if key == public:
            return hint
    raise Refused("the public key is none of the keys of the signature")
