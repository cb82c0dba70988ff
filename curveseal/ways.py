"""Ways of multiplying a point; all of them give the same point.

A group is anything that has the methods neutral, add and negate.
"""

from curveseal.doubling import bits_from_top
from curveseal.errors import OutOfRange

WIDEST = 8


def window_digits(number, width):
    """Return the digits of a number in the base 2^width, the lowest first."""
    _check_digits(number, width, 1)
    digits = []
    rest = number
    while rest != 0:
        digits.append(rest & ((1 << width) - 1))
        rest = rest >> width
    return digits


def signed_digits(number, width):
    """Return digits in the base 2, the lowest first, each 0 or odd and less than 2^(width - 1)."""
    _check_digits(number, width, 2)
    digits = []
    rest = number
    while rest != 0:
        digit = _signed_digit(rest, width) if rest & 1 == 1 else 0
        digits.append(digit)
        rest = (rest - digit) >> 1
    return digits


def _signed_digit(number, width):
    residue = number & ((1 << width) - 1)
    if residue >= 1 << (width - 1):
        return residue - (1 << width)
    return residue


def _check_digits(number, width, least):
    if number < 0:
        raise OutOfRange("the number is negative")
    if width < least or width > WIDEST:
        raise OutOfRange("the width is not within its bounds")


def multiply_ladder(group, factor, point):
    """Return the multiple of a point, by keeping two points that differ by the point."""
    low, high = group.neutral(), _turned(group, factor, point)
    for bit in bits_from_top(abs(factor)):
        middle = group.add(low, high)
        if bit == 1:
            low, high = middle, group.add(high, high)
        else:
            low, high = group.add(low, low), middle
    return low


def _turned(group, factor, point):
    """Return the point whose multiple by the absolute factor is that of the point by the factor."""
    return group.negate(point) if factor < 0 else point


def multiply_windows(group, factor, point, *, width=4):
    """Return the multiple of a point, by digits and a table of its first multiples."""
    digits = window_digits(abs(factor), width)
    if len(digits) == 0:
        return group.neutral()
    start = _turned(group, factor, point)
    multiples = [group.neutral()]
    for _ in range(max(digits)):
        multiples.append(group.add(multiples[-1], start))
    result = group.neutral()
    for digit in digits[::-1]:
        for _ in range(width):
            result = group.add(result, result)
        result = group.add(result, multiples[digit])
    return result


def multiply_signed(group, factor, point, *, width=4):
    """Return the multiple of a point, by signed digits and a table of its odd multiples."""
    digits = signed_digits(abs(factor), width)
    odd_multiples = _odd_multiples(group, _turned(group, factor, point), 1 << (width - 2))
    result = group.neutral()
    for digit in digits[::-1]:
        result = group.add(result, result)
        if digit != 0:
            multiple = odd_multiples[abs(digit) // 2]
            result = group.add(result, _turned(group, digit, multiple))
    return result


def _odd_multiples(group, point, count):
    """Return the multiples of a point by 1, 3, 5 and so on."""
    twice = group.add(point, point)
    multiples = [point]
    while len(multiples) < count:
        multiples.append(group.add(multiples[-1], twice))
    return multiples


def sum_of_multiples(group, pairs):
    """Return the sum of the multiples of pairs (factor, point), which share the doublings."""
    turned = [(abs(factor), _turned(group, factor, point)) for factor, point in pairs]
    longest = max([factor.bit_length() for factor, _ in turned], default=0)
    result = group.neutral()
    for at in range(longest - 1, -1, -1):
        result = group.add(result, result)
        for factor, point in turned:
            if (factor >> at) & 1 == 1:
                result = group.add(result, point)
    return result
