"""Warrants and withdrawals, and the texts of them and of messages that are signed."""

from sealgrove.common import LAST_U32, LAST_U64
from sealgrove.errors import Malformed, OutOfRange
from sealgrove.octets import big, is_bytes, number_of, u8, u32, within
from sealgrove.papers import is_byte_tuple

WARRANT = 87
WITHDRAWAL = 88
MESSAGE = 77

LONGEST_SUBJECT = 1000
LONGEST_SCOPE = 64
DEEPEST = 7
LONGEST_TEXT_MESSAGE = 65535

# What stands before the scope; its last byte is the length of the scope.
FIXED_SIZE = 27


def are_ascending(low, high, most):
    """Tell whether two values, which may be of any kind, are numbers up to the greatest one, in their order."""
    return within(low, 0, most) and within(high, low, most)


def is_warrant(value):
    """Tell whether the value, which may be of any kind, is a warrant."""
    if not isinstance(value, tuple) or len(value) != 7:
        return False
    subject, first, last, low, high, depth, scope = value
    if not is_byte_tuple(subject) or len(subject) > LONGEST_SUBJECT:
        return False
    if not are_ascending(first, last, LAST_U32) or not are_ascending(low, high, LAST_U64):
        return False
    return within(depth, 0, DEEPEST) and is_byte_tuple(scope) and len(scope) <= LONGEST_SCOPE


def is_withdrawal(value):
    """Tell whether the value, which may be of any kind, is a withdrawal."""
    if not isinstance(value, tuple) or len(value) != 2:
        return False
    warrant, day = value
    return is_warrant(warrant) and within(day, 0, LAST_U32)


def write_warrant(warrant):
    """Return the form of a warrant."""
    if not is_warrant(warrant):
        raise Malformed("the value is no warrant")
    subject, first, last, low, high, depth, scope = warrant
    numbers = u32(first) + u32(last) + big(low, 8) + big(high, 8) + u8(depth)
    return u8(WARRANT) + numbers + u8(len(scope)) + list(scope) + list(subject)


def write_withdrawal(withdrawal):
    """Return the form of a withdrawal."""
    if not is_withdrawal(withdrawal):
        raise Malformed("the value is no withdrawal")
    warrant, day = withdrawal
    return u8(WITHDRAWAL) + u32(day) + write_warrant(warrant)


def read_warrant(data):
    """Return the warrant whose form the list is."""
    if not is_bytes(data) or len(data) < FIXED_SIZE or data[0] != WARRANT:
        raise Malformed("the list does not begin like a warrant")
    behind = FIXED_SIZE + data[FIXED_SIZE - 1]
    if len(data) < behind:
        raise Malformed("the scope does not lie within the list")
    warrant = (
        tuple(data[behind:]), number_of(data[1:5]), number_of(data[5:9]), number_of(data[9:17]),
        number_of(data[17:25]), data[25], tuple(data[FIXED_SIZE:behind]),
    )
    if not is_warrant(warrant):
        raise Malformed("the list is no form of a warrant")
    return warrant


def read_withdrawal(data):
    """Return the withdrawal whose form the list is."""
    if not is_bytes(data) or len(data) < 5 or data[0] != WITHDRAWAL:
        raise Malformed("the list does not begin like a withdrawal")
    return read_warrant(data[5:]), number_of(data[1:5])


def need_text_message(message):
    """Refuse a message that has no text."""
    if len(message) > LONGEST_TEXT_MESSAGE:
        raise OutOfRange("the message has more than 65535 bytes")


def message_text(message):
    """Return the text of a message."""
    need_text_message(message)
    return u8(MESSAGE) + message
