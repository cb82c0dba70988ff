"""Byte lists of signatures."""

from curveseal.encoding import edwards_size, read_little_scalar, read_scalar, write_little_scalar, write_scalar
from curveseal.errors import Malformed, OutOfRange
from curveseal.points import read_edwards, read_x, write_edwards, write_x
from curveseal.tagged import read_pair, write_pair


def write_plain(group, r, s):
    """Return the plain form of two numbers, one behind the other."""
    _check_written(group, r)
    _check_written(group, s)
    return write_scalar(group, r) + write_scalar(group, s)


def read_plain(group, data):
    """Return the two numbers of a plain form."""
    size = group.order_size
    return _checked_pair(group, read_scalar(group, data[:size]), read_scalar(group, data[size:]))


def write_tagged(group, r, s):
    """Return the tagged form of two numbers."""
    _check_written(group, r)
    _check_written(group, s)
    return write_pair(r, s)


def read_tagged(group, data):
    """Return the two numbers of a tagged form."""
    r, s = read_pair(data)
    return _checked_pair(group, r, s)


def _is_part_of_signature(group, number):
    return 1 <= number < group.order


def _check_written(group, number):
    if not _is_part_of_signature(group, number):
        raise OutOfRange("a number of the signature is not from 1 to the order minus 1")


def _checked_pair(group, r, s):
    """Return two numbers that were read, if both may stand in a signature."""
    if not _is_part_of_signature(group, r) or not _is_part_of_signature(group, s):
        raise Malformed("a number of the signature is not from 1 to the order minus 1")
    return (r, s)


def write_x_signature(group, point, s):
    """Return the form of a point by its x, and of a scalar."""
    return write_x(group, point) + write_scalar(group, s)


def read_x_signature(group, data):
    """Return the point with even y and the scalar of a form."""
    return (read_x(group, data[:group.size]), read_scalar(group, data[group.size:]))


def write_edwards_signature(group, point, s):
    """Return the form of a point and of a scalar of an Edwards group."""
    return write_edwards(group, point) + write_little_scalar(group, s)


def read_edwards_signature(group, data):
    """Return the point and the scalar of a form of an Edwards group."""
    size = edwards_size(group)
    return (read_edwards(group, data[:size]), read_little_scalar(group, data[size:]))
