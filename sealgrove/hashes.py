"""Digests with addresses, the digests of messages, and digits of any number of bits."""

from sealgrove.address import short_form
from sealgrove.common import need_size, need_within
from sealgrove.errors import OutOfRange
from sealgrove.octets import number_of

SEED_ROOM = 64
MOST_BITS = 24


def addressed_list(suite, seed, address, data):
    """Return the list of the seed, the address and the data."""
    need_size(seed, suite.size, "the seed")
    return seed + [0] * (SEED_ROOM - suite.size) + short_form(address) + data


def addressed(suite, seed, address, data):
    """Return the digest of the list of the seed, the address and the data."""
    return suite.digest(addressed_list(suite, seed, address, data))


def randomizer_of(suite, key, extra, message):
    """Return the randomizer of a message."""
    return suite.mac(key, extra + message)[:suite.size]


def message_digest(suite, randomizer, seed, root, message, count):
    """Return so many bytes that stand for the message."""
    head = randomizer + seed
    return suite.stretch(head + suite.whole(head + root + message), count)


def bit_digits(data, bits, count):
    """Return the numbers of the first count times bits bits of the data."""
    need_within(bits, 1, MOST_BITS, "the number of bits")
    if count < 0 or count * bits > 8 * len(data):
        raise OutOfRange("the byte list has not so many digits")
    return [bits_at(data, k * bits, bits) for k in range(count)]


def bits_at(data, start, bits):
    """Return the number of the bits of the data that begin at a bit."""
    behind = start + bits
    last = (behind + 7) // 8
    return number_of(data[start // 8:last]) >> (8 * last - behind) & ((1 << bits) - 1)
