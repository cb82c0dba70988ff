"""Numbers and sequences as byte lists: a tag, a length and a content."""

from curveseal.errors import Malformed, OutOfRange
from curveseal.octets import from_big, is_bytes, to_big

NUMBER_TAG = 2
SEQUENCE_TAG = 48

LONGEST_CONTENT = 65535
MOST_BITS = 520
LONGEST_NUMBER = 66
MOST_LEVELS = 8
MOST_PARTS = 64


def write_length(size):
    """Return the byte list of a length."""
    if size < 0 or size > LONGEST_CONTENT:
        raise OutOfRange("the length is not from 0 to 65535")
    if size < 128:
        return [size]
    if size < 256:
        return [129, size]
    return [130] + to_big(size, 2)


def read_length(data, at):
    """Return the length that begins at an index, and the index behind it."""
    first = data[at:at + 1]
    if len(first) == 0:
        raise Malformed("there is no length")
    behind = at + 1
    size = first[0]
    if size in (129, 130):
        behind += size - 128
        size = from_big(data[at + 1:behind])
    # No length is written as one other byte from 128 on, so this refuses them, too.
    if data[at:behind] != write_length(size):
        raise Malformed("the length is not complete, or not written in the shortest way")
    return size, behind


def write_number(number):
    """Return the byte list of a number."""
    if number < 0 or number.bit_length() > MOST_BITS:
        raise OutOfRange("the number is negative or has more than 520 bits")
    return _part(NUMBER_TAG, _number_content(number))


def _number_content(number):
    # There is room for one bit more than the number has, so that the highest bit is 0.
    return to_big(number, number.bit_length() // 8 + 1)


def _part(tag, content):
    return [tag] + write_length(len(content)) + content


def write_pair(first, second):
    """Return the byte list of two numbers."""
    return write_tree((first, second))


def read_pair(data):
    """Return the two numbers of a byte list."""
    tag, content = _only_part(data)
    parts = _split_parts(content)
    if tag != SEQUENCE_TAG or [inner for inner, _ in parts] != [NUMBER_TAG, NUMBER_TAG]:
        raise Malformed("the byte list is no sequence of two numbers")
    return _number(parts[0][1]), _number(parts[1][1])


def _only_part(data):
    """Return the tag and the content of a byte list that is one part."""
    if not is_bytes(data):
        raise Malformed("the value is no byte list")
    parts = _split_parts(data)
    if len(parts) != 1:
        raise Malformed("the byte list does not consist of one part")
    return parts[0]


def _split_parts(data):
    """Return the pairs (tag, content) of parts that stand one after the other."""
    parts = []
    at = 0
    while at < len(data):
        size, start = read_length(data, at + 1)
        behind = start + size
        if behind > len(data):
            raise Malformed("the byte list ends within a part")
        parts.append((data[at], data[start:behind]))
        at = behind
    return parts


def _number(content):
    """Return the number of the content of a part."""
    if len(content) > LONGEST_NUMBER:
        raise Malformed("the content of the number is too long")
    number = from_big(content)
    if number.bit_length() > MOST_BITS or _number_content(number) != content:
        raise Malformed("the number has too many bits, or is not written in the shortest way")
    return number


def write_tree(value):
    """Return the byte list of a number, or of a tuple of such values."""
    if _levels(value) > MOST_LEVELS or _part_count(value) > MOST_PARTS:
        raise OutOfRange("the value is nested too deep or has too many parts")
    return _tree_part(value)


def _levels(value):
    """Return how deep tuples are nested; a number has no level."""
    if not isinstance(value, tuple):
        return 0
    return 1 + max([_levels(item) for item in value], default=0)


def _part_count(value):
    """Return how many parts the form of a value has, the outermost one included."""
    if not isinstance(value, tuple):
        return 1
    return 1 + sum([_part_count(item) for item in value])


def _tree_part(value):
    if not isinstance(value, tuple):
        return write_number(value)
    return _part(SEQUENCE_TAG, [byte for item in value for byte in _tree_part(item)])


def read_tree(data):
    """Return the number or the tuple of a byte list."""
    tag, content = _only_part(data)
    value = _tree_value(tag, content, MOST_LEVELS)
    if _part_count(value) > MOST_PARTS:
        raise Malformed("the byte list has too many parts")
    return value


def _tree_value(tag, content, levels):
    """Return the value of a part, in which sequences are nested at most so many levels deep."""
    if tag == NUMBER_TAG:
        return _number(content)
    if tag != SEQUENCE_TAG:
        raise Malformed("the tag is neither that of a number nor that of a sequence")
    if levels == 0:
        raise Malformed("the sequences are nested too deep")
    return tuple([_tree_value(inner, part, levels - 1) for inner, part in _split_parts(content)])
