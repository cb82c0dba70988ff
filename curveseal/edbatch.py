"""Checking many EdDSA signatures at once."""

from curveseal.batch import check_factors
from curveseal.eddsa import eddsa_difference


def eddsa_batch_accepts(group, entries, factors):
    """Tell whether a list of entries (key, message, signature) is accepted with these factors."""
    check_factors(group, entries, factors)
    total = group.neutral()
    for (key, message, signature), factor in zip(entries, factors):
        difference = eddsa_difference(group, key, message, signature)
        if difference is None:
            return False
        total = group.add(total, group.multiply(factor, difference))
    return group.is_small(total)
