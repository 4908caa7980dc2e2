"""Bytes, and numbers written in bytes with the highest one first."""

from sealgrove.errors import OutOfRange


def within(value, low, high):
    """Tell whether the value, which may be of any kind, is an integer from low to high."""
    if not isinstance(value, int) or isinstance(value, bool):
        return False
    return low <= value <= high


def is_bytes(value):
    """Tell whether the value, which may be of any kind, is a byte list."""
    if not isinstance(value, list):
        return False
    for item in value:
        # This is written out, and not asked of `within`, because byte lists are looked at so often.
        if not isinstance(item, int) or isinstance(item, bool) or not 0 <= item <= 255:
            return False
    return True


def big(number, size):
    """Return the number in size bytes, the highest one first."""
    if number < 0 or number >> (8 * size) != 0:
        # The number is not in the text: Python refuses to write a number of more than 4300 digits.
        raise OutOfRange(f"the number does not fit in {size} bytes")
    return [number >> (8 * place) & 255 for place in reversed(range(size))]


def u8(number):
    """Return the number in one byte."""
    return big(number, 1)


def u16(number):
    """Return the number in two bytes."""
    return big(number, 2)


def u32(number):
    """Return the number in four bytes."""
    return big(number, 4)


def number_of(data):
    """Return the number that is written in a byte list, 0 for the empty one."""
    number = 0
    for byte in data:
        number = number * 256 + byte
    return number
