"""Signatures of parts 7 and 8, with hashlib and the sums of the reference."""

import hashlib

from curveseal.groups import Group
from curveseal.weierstrass import Curve
from reference import EDWARDS_SIZES, curve_multiple, curve_sum, edwards_multiple, edwards_sum


def group_of_521_bits():
    """Return the group of P-521, whose order has more bytes than a digest of sha256."""
    p = 2 ** 521 - 1
    b = int(
        "0051953eb9618e1c9a1f929a21a0b68540eea2da725b99b315f3b8b489918ef109e156193951ec7e937b1652c0bd3bb1bf073573df88"
        "3d2c34f1ef451fd46b503f00", 16,
    )
    x = int(
        "00c6858e06b70404e9cd9e3ecb662395b4429c648139053fb521f828af606b4d3dbaa14b5e77efe75928fe1dc127a2ffa8de3348b3c1"
        "856a429bf97e7e31c2e5bd66", 16,
    )
    y = int(
        "011839296a789a3bc0045c8a5fb42c7d1bd998f54449579b446817afbd17273e662c97ee72995ef42640c550b9013fad0761353c7086"
        "a272c24088be94769fd16650", 16,
    )
    order = 2 ** 521 - 2 ** 260 + int("a51868783bf2f966b7fcc0148f709a5d03bb5c9b8899c47aebb6fb71e91386409", 16)
    return Group("p521", Curve(p, -3, b), (x, y), order, 1)


def sha512(data):
    return list(hashlib.sha512(bytes(data)).digest())


def tagged_digest(tag, data):
    mark = hashlib.sha256(tag.encode()).digest()
    return list(hashlib.sha256(mark + mark + bytes(data)).digest())


def scalar(group, tag, data):
    return int.from_bytes(bytes(tagged_digest(tag, data)), "big") % group.order


def big(number, size):
    return list(number.to_bytes(size, "big"))


def little(number, size):
    return list(number.to_bytes(size, "little"))


def multiple(group, factor, point):
    return curve_multiple(group.prime, group.curve.a, factor, point)


def plus(group, first, second):
    return curve_sum(group.prime, group.curve.a, first, second)


def x_form(group, point):
    return big(point[0], group.size)


def even_point(group, form):
    """Return the point with even y of a one-coordinate form, or None if there is none."""
    x, p = int.from_bytes(bytes(form), "big"), group.prime
    if len(form) != group.size or x >= p:
        return None
    square = (x ** 3 + group.curve.a * x + group.curve.b) % p
    roots = [pow(square, (p + 1) // 4, p)] if p % 4 == 3 else range(p)
    for root in roots:
        for y in (root, -root % p):
            if y * y % p == square and y % 2 == 0:
                return (x, y)
    return None


def schnorr_parts(group, secret):
    """Return the even secret and the key of point 121."""
    point = multiple(group, secret, group.base)
    return (group.order - secret if point[1] % 2 == 1 else secret), x_form(group, point)


def plain_nonce(group, secret, message, extra):
    even, key = schnorr_parts(group, secret)
    masked = big(even, group.order_size)
    for at, byte in enumerate(tagged_digest("BIP0340/aux", extra)):
        if at < len(masked):
            masked[at] ^= byte
    return scalar(group, "BIP0340/nonce", masked + key + message) or 1


def plain_schnorr(group, secret, message, extra=()):
    """Return the signature of point 124."""
    even, key = schnorr_parts(group, secret)
    nonce = plain_nonce(group, secret, message, extra)
    point = multiple(group, nonce, group.base)
    if point[1] % 2 == 1:
        nonce = group.order - nonce
    e = scalar(group, "BIP0340/challenge", x_form(group, point) + key + message)
    return x_form(group, point) + big((nonce + e * even) % group.order, group.order_size)


def plain_schnorr_accepts(group, key, message, signature):
    """Return the answer of point 125."""
    if len(signature) != group.size + group.order_size:
        return False
    first, last = signature[:group.size], int.from_bytes(bytes(signature[group.size:]), "big")
    point, public = even_point(group, first), even_point(group, key)
    if point is None or public is None or last >= group.order:
        return False
    e = scalar(group, "BIP0340/challenge", first + key + message)
    return multiple(group, last, group.base) == plus(group, point, multiple(group, e, public))


def edwards_times(group, factor, point):
    return edwards_multiple(group.prime, group.curve.a, group.curve.d, factor, point)


def edwards_plus(group, first, second):
    return edwards_sum(group.prime, group.curve.a, group.curve.d, first, second)


def edwards_form(group, point):
    """Return the form of point 76."""
    data = little(point[1], EDWARDS_SIZES[group.name])
    data[-1] |= 128 * (point[0] % 2)
    return data


def plain_seed_parts(group, seed):
    """Return the secret scalar and the prefix of point 136."""
    parts = sha512(seed)
    bits = group.prime.bit_length() - 1
    number = int.from_bytes(bytes(parts[:len(seed)]), "little") % 2 ** bits
    return 2 ** bits + number // group.cofactor * group.cofactor, parts[32:]


def plain_variant(variant, message):
    """Return the domain and the text of point 137."""
    if variant == ("pure",):
        return [], message
    kind, data = variant
    mark = ("context", "prehashed").index(kind)
    domain = list(b"SigEd25519 no Ed25519 collisions") + [mark, len(data)] + data
    return domain, sha512(message) if mark == 1 else message


def little_scalar(group, data):
    return int.from_bytes(bytes(sha512(data)), "little") % group.order


def plain_eddsa(group, seed, message, variant=("pure",)):
    """Return the signature of point 138."""
    a, prefix = plain_seed_parts(group, seed)
    domain, text = plain_variant(variant, message)
    key = edwards_form(group, edwards_times(group, a, group.base))
    r = little_scalar(group, domain + prefix + text)
    first = edwards_form(group, edwards_times(group, r, group.base))
    k = little_scalar(group, domain + first + key + text)
    return first + little((r + k * a) % group.order, EDWARDS_SIZES[group.name])
