"""Bits of factors, and multiples by doubling and adding for both kinds of curves."""


def bits_from_top(number):
    """Return the bits of a number that is not negative, the highest first."""
    return [(number >> at) & 1 for at in range(number.bit_length() - 1, -1, -1)]


def multiply_by_bits(curve, neutral, factor, point):
    """Return the multiple of a point by the bits of the factor, from the lowest."""
    if factor < 0:
        return multiply_by_bits(curve, neutral, -factor, curve.negate(point))
    result = neutral
    doubled = point
    rest = factor
    while rest > 0:
        if rest & 1 == 1:
            result = curve.add(result, doubled)
        doubled = curve.add(doubled, doubled)
        rest = rest >> 1
    return result
