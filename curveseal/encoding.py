"""Byte lists of scalars, and what all forms have in common."""

from curveseal.errors import Malformed, OutOfRange
from curveseal.octets import from_big, from_little, is_bytes, to_big, to_little


def check_kind(group, kind):
    """Raise OutOfRange if a group is of the other kind."""
    if group.kind != kind:
        raise OutOfRange(f"the group is not of the kind {kind}")


def check_form(data, size):
    """Raise Malformed if the data are not a byte list of this size."""
    if not is_bytes(data) or len(data) != size:
        raise Malformed(f"the form does not consist of {size} bytes")


def edwards_size(group):
    """Return how many bytes the form of a point of an Edwards group has."""
    check_kind(group, "edwards")
    # The highest bit is left for x, so there is one bit more than the prime has.
    return group.prime.bit_length() // 8 + 1


def write_scalar(group, number):
    """Return the byte list of a scalar, the highest byte first."""
    _check_scalar(group, number)
    return to_big(number, group.order_size)


def read_scalar(group, data):
    """Return the scalar of a byte list."""
    check_form(data, group.order_size)
    return _scalar(group, from_big(data))


def write_little_scalar(group, number):
    """Return the byte list of a scalar of an Edwards group, the lowest byte first."""
    size = edwards_size(group)
    _check_scalar(group, number)
    return to_little(number, size)


def read_little_scalar(group, data):
    """Return the scalar of a byte list of an Edwards group."""
    check_form(data, edwards_size(group))
    return _scalar(group, from_little(data))


def _check_scalar(group, number):
    if number < 0 or number >= group.order:
        raise OutOfRange("the number is no scalar of the group")


def _scalar(group, number):
    """Return a number that was read, if it is a scalar."""
    if number >= group.order:
        raise Malformed("the number is not less than the order")
    return number
