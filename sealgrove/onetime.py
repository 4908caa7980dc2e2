"""One-time keys and their signatures, forms and rows."""

from sealgrove.chains import ends_list, message_list, randomizer_list, secret_list, step_list, walk
from sealgrove.coefficients import one_time_of
from sealgrove.common import (
    are_values, chains_rows, has_size, joined, need_message, need_place, need_size, need_within, pieces, row_of,
)
from sealgrove.errors import Malformed, OutOfRange
from sealgrove.octets import is_bytes, number_of, u32


def is_once_signature(kind, signature):
    """Tell whether the value, which may be of any kind, has the form of a signature."""
    if not isinstance(signature, tuple) or len(signature) != 2:
        return False
    randomizer, values = signature
    size = kind.suite.size
    return has_size(randomizer, size) and are_values(values, kind.p, size)


def need_signature(kind, signature):
    """Refuse a signature that does not have the form of one."""
    if not is_once_signature(kind, signature):
        raise OutOfRange("the signature does not have the form of one")


def need_seeded_place(kind, identifier, q, seed):
    """Refuse a place or a seed that is none."""
    need_place(identifier, q)
    need_size(seed, kind.suite.size, "the seed")


def chain_value(kind, identifier, q, seed, chain, step):
    """Return the value of the key's own chain at a step."""
    need_seeded_place(kind, identifier, q, seed)
    need_within(chain, 0, kind.p - 1, "the chain")
    need_within(step, 0, kind.top, "the step")
    secret = kind.suite.digest(secret_list(identifier, q, chain, seed))
    return walk(kind.suite, identifier, q, chain, 0, step, secret)


def ends(kind, identifier, q, seed):
    """Return the list of the ends of all chains."""
    need_seeded_place(kind, identifier, q, seed)
    return [chain_value(kind, identifier, q, seed, chain, kind.top) for chain in range(kind.p)]


def one_time_key(kind, identifier, q, seed):
    """Return the key of the place."""
    return kind.suite.digest(ends_list(identifier, q, ends(kind, identifier, q, seed)))


def sign_once(kind, identifier, q, seed, message):
    """Return the signature of a message."""
    need_seeded_place(kind, identifier, q, seed)
    need_message(message)
    randomizer = kind.suite.digest(randomizer_list(identifier, q, seed))
    digits = message_digits(kind, identifier, q, randomizer, message)
    values = [chain_value(kind, identifier, q, seed, chain, digit) for chain, digit in enumerate(digits)]
    return randomizer, values


def message_digits(kind, identifier, q, randomizer, message):
    """Return the digits of the digest of the message list."""
    need_place(identifier, q)
    need_size(randomizer, kind.suite.size, "the randomizer")
    need_message(message)
    return kind.digits(kind.suite.digest(message_list(identifier, q, randomizer, message)))


def candidate(kind, identifier, q, message, signature):
    """Return the key under which the signature of the message is accepted."""
    need_place(identifier, q)
    need_message(message)
    need_signature(kind, signature)
    randomizer, values = signature
    digits = message_digits(kind, identifier, q, randomizer, message)
    reached = [
        walk(kind.suite, identifier, q, chain, digits[chain], kind.top, value)
        for chain, value in enumerate(values)
    ]
    return kind.suite.digest(ends_list(identifier, q, reached))


def accepts_once(kind, identifier, q, key, message, signature):
    """Tell whether the signature of the message is accepted under the key."""
    need_place(identifier, q)
    need_size(key, kind.suite.size, "the key")
    return candidate(kind, identifier, q, message, signature) == key


def write_once(kind, signature):
    """Return the form of a signature."""
    need_signature(kind, signature)
    randomizer, values = signature
    return u32(kind.code) + randomizer + joined(values)


def read_once(kind, data):
    """Return the signature of this kind whose form the list is."""
    size = kind.suite.size
    if not has_size(data, 4 + size * (kind.p + 1)) or number_of(data[:4]) != kind.code:
        raise Malformed("the list is no form of a signature of this kind")
    return data[4:4 + size], pieces(data[4 + size:], size)


def write_once_key(kind, identifier, q, key):
    """Return the form of a key."""
    need_place(identifier, q)
    need_size(key, kind.suite.size, "the key")
    return u32(kind.code) + identifier + u32(q) + key


def read_once_key(data):
    """Return the kind, the identifier, the number q and the key whose form the list is."""
    if not is_bytes(data):
        raise Malformed("the form of a key is a byte list")
    kind = one_time_of(number_of(data[:4]))
    if len(data) != 24 + kind.suite.size:
        raise Malformed("the form of the key has a wrong length")
    return kind, data[4:20], number_of(data[20:24]), data[24:]


def verify_once(form, message, data):
    """Tell whether a form of a key accepts a form of a signature for the message."""
    need_message(message)
    try:
        kind, identifier, q, key = read_once_key(form)
        signature = read_once(kind, data)
    except Malformed:
        return False
    return accepts_once(kind, identifier, q, key, message, signature)


def lmots_rows(form, message, data):
    """Return the rows of an accepted signature, or None if it is not accepted."""
    if not verify_once(form, message, data):
        return None
    kind, identifier, q, _ = read_once_key(form)
    return once_rows(kind, identifier, q, message, read_once(kind, data))


def once_rows(kind, identifier, q, message, signature):
    """Return the rows of a signature, from the ends list to the message list."""
    randomizer, values = signature
    digits = message_digits(kind, identifier, q, randomizer, message)
    reached, steps = chains_rows(
        kind.suite, lambda chain, step, value: step_list(identifier, q, chain, step, value),
        digits, kind.top, values,
    )
    first = row_of(ends_list(identifier, q, reached), reached, False)
    last = row_of(message_list(identifier, q, randomizer, message), [], True)
    return [first] + steps + [last]
