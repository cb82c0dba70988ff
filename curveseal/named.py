"""The named groups."""

from curveseal.edwards import EdwardsCurve
from curveseal.errors import Malformed
from curveseal.groups import EdwardsGroup, Group
from curveseal.weierstrass import Curve

GROUP_NAMES = (
    "p256", "secp256k1", "w11", "w23", "w43", "w79", "w251", "w1021", "w65521", "w31",
    "ed25519", "e13", "e29", "e61", "e241", "e1021", "e65521", "e31",
)

# For each name: the prime, a, b, the base point and the order. The cofactor is always 1.
WEIERSTRASS_NUMBERS = {
    "p256": (
        0xffffffff00000001000000000000000000000000ffffffffffffffffffffffff,
        0xffffffff00000001000000000000000000000000fffffffffffffffffffffffc,
        0x5ac635d8aa3a93e7b3ebbd55769886bc651d06b0cc53b0f63bce3c3e27d2604b,
        (
            0x6b17d1f2e12c4247f8bce6e563a440f277037d812deb33a0f4a13945d898c296,
            0x4fe342e2fe1a7f9b8ee7eb4a7c0f9e162bce33576b315ececbb6406837bf51f5,
        ),
        0xffffffff00000000ffffffffffffffffbce6faada7179e84f3b9cac2fc632551,
    ),
    "secp256k1": (
        0xfffffffffffffffffffffffffffffffffffffffffffffffffffffffefffffc2f,
        0,
        7,
        (
            0x79be667ef9dcbbac55a06295ce870b07029bfcdb2dce28d959f2815b16f81798,
            0x483ada7726a3c4655da4fbfc0e1108a8fd17b448a68554199c47d08ffb10d4b8,
        ),
        0xfffffffffffffffffffffffffffffffebaaedce6af48a03bbfd25e8cd0364141,
    ),
    "w11": (11, 8, 1, (0, 10), 17),
    "w23": (23, 1, 4, (0, 2), 29),
    "w43": (43, 0, 7, (2, 12), 31),
    "w79": (79, 0, 3, (1, 2), 97),
    "w251": (251, 248, 26, (2, 84), 223),
    "w1021": (1021, 1, 6, (2, 4), 991),
    "w65521": (65521, 0, 17, (1, 1086), 65353),
    "w31": (2147483647, 2147483644, 21, (0, 1114098080), 2147487637),
}

# For each name: the prime, d, the base point, the order and the cofactor. a is always -1.
EDWARDS_NUMBERS = {
    "ed25519": (
        0x7fffffffffffffffffffffffffffffffffffffffffffffffffffffffffffffed,
        37095705934669439343138083508754565189542113879843219016388785533085940283555,
        (
            15112221349535400772501151409588531511454012693041857206046113283949847762202,
            46316835694926478169428394003475163141307993866256225615783033603165251855960,
        ),
        0x1000000000000000000000000000000014def9dea2f79cd65812631a5cf5d3ed,
        8,
    ),
    "e13": (13, 6, (10, 9), 5, 4),
    "e29": (29, 2, (9, 19), 7, 4),
    "e61": (61, 2, (22, 52), 7, 8),
    "e241": (241, 7, (145, 174), 29, 8),
    "e1021": (1021, 6, (705, 45), 263, 4),
    "e65521": (65521, 115, (59650, 1991), 16421, 4),
    "e31": (2147483629, 17, (1670607212, 365716599), 536863057, 4),
}


def group_kind(name):
    """Return the kind of the group of a name, without making the group."""
    if name in WEIERSTRASS_NUMBERS:
        return "weierstrass"
    if name in EDWARDS_NUMBERS:
        return "edwards"
    raise Malformed("there is no group of this name")


def group_named(name):
    """Return the group of a name, as a new object."""
    if group_kind(name) == "weierstrass":
        prime, a, b, base, order = WEIERSTRASS_NUMBERS[name]
        return Group(name, Curve(prime, a, b), base, order, 1)
    prime, d, base, order, cofactor = EDWARDS_NUMBERS[name]
    return EdwardsGroup(name, EdwardsCurve(prime, -1, d), base, order, cofactor)
