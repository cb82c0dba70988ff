"""Points, sums and numbers of curves, found by trying everything."""

# Point 41: p, a, b, base point, order.
WEIERSTRASS = {
    "w11": (11, 8, 1, (0, 10), 17),
    "w23": (23, 1, 4, (0, 2), 29),
    "w43": (43, 0, 7, (2, 12), 31),
    "w79": (79, 0, 3, (1, 2), 97),
    "w251": (251, 248, 26, (2, 84), 223),
    "w1021": (1021, 1, 6, (2, 4), 991),
    "w65521": (65521, 0, 17, (1, 1086), 65353),
    "w31": (2147483647, 2147483644, 21, (0, 1114098080), 2147487637),
    "p256": (
        2 ** 256 - 2 ** 224 + 2 ** 192 + 2 ** 96 - 1,
        -3,
        0x5ac635d8aa3a93e7b3ebbd55769886bc651d06b0cc53b0f63bce3c3e27d2604b,
        (
            0x6b17d1f2e12c4247f8bce6e563a440f277037d812deb33a0f4a13945d898c296,
            0x4fe342e2fe1a7f9b8ee7eb4a7c0f9e162bce33576b315ececbb6406837bf51f5,
        ),
        0xffffffff00000000ffffffffffffffffbce6faada7179e84f3b9cac2fc632551,
    ),
    "secp256k1": (
        2 ** 256 - 2 ** 32 - 977,
        0,
        7,
        (
            0x79be667ef9dcbbac55a06295ce870b07029bfcdb2dce28d959f2815b16f81798,
            0x483ada7726a3c4655da4fbfc0e1108a8fd17b448a68554199c47d08ffb10d4b8,
        ),
        0xfffffffffffffffffffffffffffffffebaaedce6af48a03bbfd25e8cd0364141,
    ),
}

# Point 63: p, a, d, base point, order, cofactor.
EDWARDS = {
    "e13": (13, -1, 6, (10, 9), 5, 4),
    "e29": (29, -1, 2, (9, 19), 7, 4),
    "e61": (61, -1, 2, (22, 52), 7, 8),
    "e241": (241, -1, 7, (145, 174), 29, 8),
    "e1021": (1021, -1, 6, (705, 45), 263, 4),
    "e65521": (65521, -1, 115, (59650, 1991), 16421, 4),
    "e31": (2147483629, -1, 17, (1670607212, 365716599), 536863057, 4),
    "ed25519": (
        2 ** 255 - 19,
        -1,
        37095705934669439343138083508754565189542113879843219016388785533085940283555,
        (
            15112221349535400772501151409588531511454012693041857206046113283949847762202,
            46316835694926478169428394003475163141307993866256225615783033603165251855960,
        ),
        2 ** 252 + 27742317777372353535851937790883648493,
        8,
    ),
}

# Point 5: size and order size.
SIZES = {
    "w11": (1, 1), "w23": (1, 1), "w43": (1, 1), "w79": (1, 1), "w251": (1, 1), "w1021": (2, 2), "w65521": (2, 2),
    "w31": (4, 4), "p256": (32, 32), "secp256k1": (32, 32),
    "e13": (1, 1), "e29": (1, 1), "e61": (1, 1), "e241": (1, 1), "e1021": (2, 2), "e65521": (2, 2), "e31": (4, 4),
    "ed25519": (32, 32),
}

# Point 76.
EDWARDS_SIZES = {
    "ed25519": 32, "e13": 1, "e29": 1, "e61": 1, "e241": 2, "e1021": 2, "e65521": 3, "e31": 4,
}

# Prime, a and b: with and without points of order two and three, and with a or b 0.
SMALL_CURVES = (
    (5, 1, 1), (5, 0, 1), (5, 4, 0), (7, 0, 3), (7, 1, 0), (7, 6, 0), (7, 3, 2),
    (11, 8, 1), (11, 1, 6), (13, 0, 1), (13, 12, 0), (17, 2, 2), (23, 1, 4), (29, 4, 20),
)

# Prime, a and d, with a prime of either residue modulo 4.
SMALL_EDWARDS = (
    (3, 1, 2), (5, 1, 2), (5, 4, 3), (7, 2, 3), (7, 1, 5), (11, 3, 2), (13, 12, 6), (13, 1, 2), (13, 4, 7),
    (17, 16, 3), (19, 5, 2), (29, 28, 2), (31, 9, 3),
)


def curve_points(p, a, b):
    """Return all points of a short Weierstrass curve, None first."""
    pairs = [(x, y) for x in range(p) for y in range(p) if (y * y - x ** 3 - a * x - b) % p == 0]
    return [None] + pairs


def curve_sum(p, a, first, second):
    """Return the sum of point 31."""
    if first is None or second is None:
        return second if first is None else first
    (x1, y1), (x2, y2) = first, second
    if x1 == x2 and (y1 + y2) % p == 0:
        return None
    if x1 == x2:
        slope = (3 * x1 * x1 + a) * pow(2 * y1, -1, p)
    else:
        slope = (y2 - y1) * pow(x2 - x1, -1, p)
    x3 = (slope * slope - x1 - x2) % p
    return (x3, (slope * (x1 - x3) - y1) % p)


def curve_multiple(p, a, factor, point):
    """Return the multiple of point 32, with as many sums as a number has bits."""
    if factor < 0:
        factor, point = -factor, None if point is None else (point[0], -point[1] % p)
    result = None
    for bit in bin(factor)[2:]:
        result = curve_sum(p, a, result, result)
        if bit == "1":
            result = curve_sum(p, a, result, point)
    return result


def edwards_points(p, a, d):
    """Return all points of a twisted Edwards curve."""
    pairs = [(x, y) for x in range(p) for y in range(p)]
    return [(x, y) for x, y in pairs if (a * x * x + y * y - 1 - d * x * x * y * y) % p == 0]


def edwards_sum(p, a, d, first, second):
    """Return the sum of point 56."""
    (x1, y1), (x2, y2) = first, second
    t = d * x1 * x2 * y1 * y2
    x3 = (x1 * y2 + y1 * x2) * pow(1 + t, -1, p) % p
    return (x3, (y1 * y2 - a * x1 * x2) * pow(1 - t, -1, p) % p)


def edwards_multiple(p, a, d, factor, point):
    """Return the multiple of a point, with as many sums as a number has bits."""
    if factor < 0:
        factor, point = -factor, (-point[0] % p, point[1])
    result = (0, 1)
    for bit in bin(factor)[2:]:
        result = edwards_sum(p, a, d, result, result)
        if bit == "1":
            result = edwards_sum(p, a, d, result, point)
    return result
