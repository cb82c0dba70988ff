"""Checking many Schnorr signatures at once."""

from curveseal.errors import OutOfRange
from curveseal.hashes import tagged
from curveseal.octets import from_big, to_big
from curveseal.schnorr import read_entry

ROOT_TAG = "curveseal/batch"
FACTOR_TAG = "curveseal/factor"


def check_factors(group, entries, factors):
    """Raise OutOfRange if the factors do not fit to the entries and the group."""
    if len(factors) != len(entries):
        raise OutOfRange("there are not as many factors as entries")
    for factor in factors:
        if factor < 1 or factor >= group.order:
            raise OutOfRange("a factor is not from 1 to the order minus 1")


def batch_accepts(group, entries, factors):
    """Tell whether a list of entries (key, message, signature) is accepted with these factors."""
    check_factors(group, entries, factors)
    scalar, total = 0, None
    for (key, message, signature), factor in zip(entries, factors):
        entry = read_entry(group, key, message, signature)
        if entry is None:
            return False
        public, point, s, e = entry
        scalar += factor * s
        total = group.add(total, group.multiply(factor, point))
        total = group.add(total, group.multiply(factor * e % group.order, public))
    return group.multiply(scalar % group.order, group.base) == total


def batch_factors(group, entries):
    """Return the usual factors of a list of entries."""
    root = tagged(ROOT_TAG, [byte for entry in entries for byte in _packed(entry)])
    return [_factor(group, root, at) for at in range(len(entries))]


def _packed(entry):
    key, message, signature = entry
    return key + to_big(len(message), 4) + message + signature


def _factor(group, root, at):
    if at == 0:
        return 1
    return from_big(tagged(FACTOR_TAG, root + to_big(at, 4))) % (group.order - 1) + 1
