"""Values for a number of bits, and ranges: strings of digits with which the digits of values begin."""

from coverstore.errors import InvalidBits, InvalidRange, InvalidValue
from coverstore.kinds import is_int

MAX_BITS = 10


def is_bits(value):
    """Whether a value is a number of bits."""
    return is_int(value) and 1 <= value <= MAX_BITS


def is_value(value, bits):
    """Whether a value is one for these bits."""
    return is_bits(bits) and is_int(value) and 0 <= value < 1 << bits


def is_range(value, bits):
    """Whether a value is a range for these bits."""
    if not is_bits(bits) or not isinstance(value, str) or len(value) > bits:
        return False
    return value.strip("01") == ""


def range_of(value, bits):
    """The full range of a value: its digits."""
    check_bits(bits)
    check_value(value, bits)
    return f"{value:b}".zfill(bits)


def bounds(prefix, bits):
    """The least and the greatest value in a range."""
    check_bits(bits)
    check_range(prefix, bits)
    return int(prefix.ljust(bits, "0"), 2), int(prefix.ljust(bits, "1"), 2)


def common_range(one, other, bits):
    """The longer one of two nested ranges, or None if they are not nested."""
    check_bits(bits)
    check_range(one, bits)
    check_range(other, bits)
    return longer_range(one, other)


def least_cover(first, last, bits):
    """The shortest list of ranges that contain exactly the values from first to last."""
    check_bits(bits)
    check_value(first, bits)
    check_value(last, bits)
    cover = []
    start = first
    while start <= last:
        length = widest_start(start, last, bits)
        cover.append(range_of(start, bits)[:length])
        start = start + (1 << (bits - length))
    return cover


def widest_range(value, bits, barred=()):
    """The shortest range that contains the value and none of the barred ones."""
    check_bits(bits)
    check_value(value, bits)
    for element in barred:
        if not is_value(element, bits) or element == value:
            raise InvalidValue(element)
    lengths = [shared_digits(value, element, bits) + 1 for element in barred]
    return range_of(value, bits)[:max([0] + lengths)]


def check_bits(bits):
    """Raise InvalidBits for what is no number of bits."""
    if not is_bits(bits):
        raise InvalidBits(bits)


def check_value(value, bits):
    """Raise InvalidValue for what is no value for these bits."""
    if not is_value(value, bits):
        raise InvalidValue(value)


def check_range(value, bits):
    """Raise InvalidRange for what is no range for these bits."""
    if not is_range(value, bits):
        raise InvalidRange(value)


def longer_range(one, other):
    """The longer one of two ranges, or None if they are not nested."""
    if one.startswith(other):
        return one
    return other if other.startswith(one) else None


def shared_digits(one, other, bits):
    """The number of leading digits that two values have in common."""
    return bits - (one ^ other).bit_length()


def widest_start(start, last, bits):
    """The number of digits of the widest range that begins at start and does not go beyond last."""
    length = bits
    while length > 0:
        size = 1 << (bits - length + 1)
        if start % size != 0 or start + size - 1 > last:
            return length
        length -= 1
    return length


def are_values(value, count, bits):
    """Whether a value is a tuple of so many values for these bits: a point, or a key."""
    if not isinstance(value, tuple) or len(value) != count:
        return False
    return all([is_value(element, bits) for element in value])
