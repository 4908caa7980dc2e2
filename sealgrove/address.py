"""Addresses, which say for what a list is digested, and their two forms."""

from sealgrove.common import has_size, joined
from sealgrove.errors import Malformed, OutOfRange
from sealgrove.octets import big, number_of, within

STEP = 0
ENDS = 1
NODE = 2
FOREST = 3
ROOTS = 4
CHAIN_SECRET = 5
LEAF_SECRET = 6

LONG_SIZES = (4, 12, 4, 4, 4, 4)
SHORT_SIZES = (1, 8, 1, 4, 4, 4)
SHORT_SIZE = 22
NUMBERS = 6


def need_address(address):
    """Refuse what is no tuple of six numbers within their bounds."""
    if not isinstance(address, tuple) or len(address) != NUMBERS:
        raise OutOfRange("an address is a tuple of six numbers")
    for number, size in zip(address, SHORT_SIZES):
        if not within(number, 0, (1 << (8 * size)) - 1):
            raise OutOfRange("a number of the address is not within its bounds")
    if address[2] > LEAF_SECRET:
        raise OutOfRange("the use of the address is not from 0 to 6")


def long_form(address):
    """Return the 32 bytes of an address."""
    need_address(address)
    return joined([big(number, size) for number, size in zip(address, LONG_SIZES)])


def short_form(address):
    """Return the 22 bytes of an address."""
    need_address(address)
    return joined([big(number, size) for number, size in zip(address, SHORT_SIZES)])


def address_of(data):
    """Return the address whose short form the byte list is."""
    if not has_size(data, SHORT_SIZE) or data[9] > LEAF_SECRET:
        raise Malformed("the list is no short form of an address")
    numbers = []
    used = 0
    for size in SHORT_SIZES:
        numbers.append(number_of(data[used:used + size]))
        used += size
    return tuple(numbers)
