"""Byte lists of points."""

from curveseal.encoding import check_form, check_kind, edwards_size
from curveseal.errors import Malformed, NotAPoint
from curveseal.octets import from_big, from_little, is_bytes, to_big, to_little

INFINITY_FORM = 0
EVEN_FORM = 2
ODD_FORM = 3
FULL_FORM = 4


def write_point(group, point, *, compressed=True):
    """Return the byte list of a point of a Weierstrass group."""
    check_kind(group, "weierstrass")
    if not group.has(point):
        raise NotAPoint("the value is no point of the curve")
    if point is None:
        return [INFINITY_FORM]
    x, y = point
    if compressed:
        return [ODD_FORM if y & 1 == 1 else EVEN_FORM] + to_big(x, group.size)
    return [FULL_FORM] + to_big(x, group.size) + to_big(y, group.size)


def read_point(group, data):
    """Return the point of a byte list of either form."""
    return _read_forms(group, data, (INFINITY_FORM, EVEN_FORM, ODD_FORM, FULL_FORM))


def read_compressed(group, data):
    """Return the point of a byte list; only compressed forms and infinity are taken."""
    return _read_forms(group, data, (INFINITY_FORM, EVEN_FORM, ODD_FORM))


def read_uncompressed(group, data):
    """Return the point of a byte list; only uncompressed forms and infinity are taken."""
    return _read_forms(group, data, (INFINITY_FORM, FULL_FORM))


def _read_forms(group, data, first_bytes):
    """Return the point of a byte list that begins with one of the bytes."""
    check_kind(group, "weierstrass")
    if not is_bytes(data) or len(data) == 0 or data[0] not in first_bytes:
        raise Malformed("the form does not begin with a byte that is taken here")
    if data[0] == INFINITY_FORM:
        check_form(data, 1)
        return None
    if data[0] == FULL_FORM:
        return _read_full(group, data)
    check_form(data, 1 + group.size)
    return _lifted(group, from_big(data[1:]), data[0] == ODD_FORM)


def _read_full(group, data):
    check_form(data, 1 + 2 * group.size)
    x, y = from_big(data[1:1 + group.size]), from_big(data[1 + group.size:])
    if not group.has((x, y)):
        raise Malformed("the coordinates are not those of a point of the curve")
    return (x, y)


def _lifted(group, coordinate, odd):
    """Return the point with a coordinate that was read, and with this parity of the other one."""
    point = group.lift(coordinate, odd)
    if point is None:
        raise Malformed("there is no point with this coordinate")
    return point


def write_x(group, point):
    """Return the one-coordinate form of a point of a Weierstrass group."""
    check_kind(group, "weierstrass")
    if point is None or not group.has(point):
        raise NotAPoint("the value is no point of the curve other than infinity")
    return to_big(point[0], group.size)


def read_x(group, data):
    """Return the point with even y of a one-coordinate form."""
    check_kind(group, "weierstrass")
    check_form(data, group.size)
    return _lifted(group, from_big(data), False)


def write_edwards(group, point):
    """Return the byte list of a point of an Edwards group."""
    size = edwards_size(group)
    if not group.has(point):
        raise NotAPoint("the value is no point of the curve")
    x, y = point
    return to_little(y | _sign_bit(size) * (x & 1), size)


def read_edwards(group, data):
    """Return the point of a byte list of an Edwards group."""
    size = edwards_size(group)
    check_form(data, size)
    sign_bit = _sign_bit(size)
    number = from_little(data)
    return _lifted(group, number & (sign_bit - 1), number & sign_bit != 0)


def _sign_bit(size):
    """Return the highest bit of a number of so many bytes."""
    return 1 << (8 * size - 1)
