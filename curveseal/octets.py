"""Numbers, digits and texts as byte lists."""

from curveseal.errors import Malformed, OutOfRange

DIGITS = "0123456789abcdef"

# The program never takes a percent sign, although it lies between the space and the tilde.
PERCENT = 37


def is_whole(value):
    """Tell whether a value of any kind is an integer; True and False are none."""
    return isinstance(value, int) and not isinstance(value, bool)


def to_little(number, size):
    """Return the number in size bytes, the lowest byte first."""
    if number < 0 or number.bit_length() > 8 * size:
        raise OutOfRange(f"the number does not fit into {size} bytes")
    return [(number >> (8 * at)) & 255 for at in range(size)]


def to_big(number, size):
    """Return the number in size bytes, the highest byte first."""
    return to_little(number, size)[::-1]


def from_big(data):
    """Return the number of a byte list that begins with the highest byte."""
    number = 0
    for byte in data:
        number = (number << 8) | byte
    return number


def from_little(data):
    """Return the number of a byte list that begins with the lowest byte."""
    return from_big(data[::-1])


def to_digits(data):
    """Return two characters for each byte, the higher half first."""
    return "".join([f"{byte:02x}" for byte in data])


def from_digits(text):
    """Return the byte list that to_digits writes as this text."""
    if len(text) % 2 == 1:
        raise Malformed("the number of digits is odd")
    halves = [_digit(character) for character in text]
    return [16 * halves[at] + halves[at + 1] for at in range(0, len(halves), 2)]


def _digit(character):
    if character not in DIGITS:
        raise Malformed("a character is no digit")
    return DIGITS.index(character)


def is_bytes(value):
    """Tell whether a value of any kind is a byte list."""
    return isinstance(value, list) and all([is_whole(item) and 0 <= item <= 255 for item in value])


def ascii_codes(text):
    """Return the codes of a text of characters from the space to the tilde."""
    codes = [ord(character) for character in text]
    for code in codes:
        if code < 32 or code > 126 or code == PERCENT:
            raise Malformed("a character of the text is not allowed")
    return codes
